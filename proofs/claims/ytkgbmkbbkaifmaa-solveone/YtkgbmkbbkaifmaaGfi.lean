/- What Inv of a field that New made does: the inverse; memory stays as it is. -/
import Derived.Test.YtkgbmkbbkaifmaaGfc
namespace Go.Proofs.Ytkgbmkbbkaifmaa
open Go.RowKit Go.Shelf Gw

set_option maxHeartbeats 400000 in
/-- The inverse, and that there is one. -/
theorem inv_any (b a : Nat) (ha : a < 256) (w : World) (hF : IsField w b) :
    Calls Try.prog 28 #[.pointer (some ⟨b, 0, none⟩), .int .u8 (a : Int)] w fun e w' => e = .returned (.tuple #[.int .u8 (Gf.inv a : Int), .bool (nz a)]) ∧ ∃ n, w' = w.drewN n := by
  have hm := Lib.hid (show Gf.dv 1 a = Gf.inv a from Gf.gm_one_left (Gf.inv_lt a))
  go_enter Try.func28, Try.ntmps28
  go_wp2_with fail
  refine (div_any b 1 a (by omega) ha _ hF).mono ?_
  rintro e w' ⟨rfl, n, rfl⟩
  rw [hm.out]
  go_wp2
  go_ret2
  exact ⟨rfl, n, rfl⟩
end Go.Proofs.Ytkgbmkbbkaifmaa
