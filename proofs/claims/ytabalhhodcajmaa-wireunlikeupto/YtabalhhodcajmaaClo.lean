/- What bytes.Clone does: a copy in memory of its own. -/
import Derived.Test.YtabalhhodcajmaaPby
import Derived.Test.YtabalhhodcajmaaByt
namespace Go.Proofs.Ytabalhhodcajmaa
open Go.RowKit Go.Shelf Gw Pol

set_option maxRecDepth 100000 in
set_option maxHeartbeats 1000000 in
theorem clone_any (A : Option Addr) (c : Nat) (l : List Nat) (w : World) (hI : In w w.heap.size A c l) (hcm : l.length ≤ 140737488355328) :
    Calls Try.prog 34 #[.slice A l.length c] w fun e w' => ∃ A2 c2, e = .returned (.slice A2 l.length c2) ∧ Gw.Own w' w.heap.size 5 A2 c2 l ∧ Below w.heap.size w w' := by
  obtain ⟨i0, hi0, hz0, hz1, hz2⟩ := info_parts pbyte_info
  cases A with
  | none =>
    obtain rfl := hI.none_ rfl
    obtain rfl : l = [] := List.eq_nil_of_length_eq_zero (by have := hI.cap; omega)
    have he : ∀ w : World, (binOp .eql 25 (.slice none 0 0) (.slice none 0 0)).run Try.prog w = .ok (.bool true) w := fun _ => by kernel_rfl
    go_enter Try.func34, Try.ntmps34
    go_wp2
    go_ret
    exact ⟨none, 0, rfl, Own.none_ _ _ _, Below.refl _ _⟩
  | some ad =>
    have he : ∀ w : World, (binOp .eql 25 (.slice (some ad) l.length c) (.slice none 0 0)).run Try.prog w = .ok (.bool false) w := fun _ => by kernel_rfl
    go_enter Try.func34, Try.ntmps34
    go_wp2_with (at_builtin; refine wpList_app rfl (.tmp 5) (.tmp 6) 25 rfl w.heap.size 5 i0 _ Try.underlying25 hi0 hz0 hz1 hz2 rfl (some ⟨w.heap.size, 0, none⟩) 0 0 [] rfl rfl (Own.lit0 w w.heap.size 5 (Nat.le_refl _)) w.heap.size (some ad) l.length c l rfl rfl hI.none_ (hI.sl.alloc (Nat.le_refl _) _) (by simp; omega) (by simp) ?_; intro A2 c2 w2 hown hgr)
    have hb2 := below_lit' (Below.refl w.heap.size w) (Nat.le_refl _) hgr
    go_ret
    exact ⟨A2, c2, rfl, hown, hb2⟩

end Go.Proofs.Ytabalhhodcajmaa
