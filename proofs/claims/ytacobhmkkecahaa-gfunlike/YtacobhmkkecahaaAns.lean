/- What the law's own first look ('answers') does: it is true. -/
import Derived.Test.YtacobhmkkecahaaGfd
import Derived.Test.YtacobhmkkecahaaRfb
namespace Go.Proofs.Ytacobhmkkecahaa
open Go.RowKit Go.Shelf Gw

theorem a_inv2 : Gf.inv 2 = 141 := by decide +kernel
theorem a_mul1 : Gf.gm 2 128 = 27 := by decide +kernel
theorem a_mul2 : Gf.gm 83 202 = 1 := by decide +kernel
theorem a_pow : Gf.gpz 2 8 = 27 := by decide +kernel

set_option maxRecDepth 100000 in
set_option maxHeartbeats 1000000 in
theorem answers_any (w : World) : Calls Try.prog 11 #[] w fun e w' => e = .returned (.bool true) ∧ Below w.heap.size w w' := by
  have A1 := Lib.hid a_inv2
  have A2 := Lib.hid a_mul1
  have A3 := Lib.hid a_mul2
  have A4 := Lib.hid a_pow
  go_enter Try.func11, Try.ntmps11
  go_wp2_with fail
  refine (new_any _).mono ?_
  rintro e w1 ⟨rfl, hF, hB⟩
  go_wp2_with fail
  refine (inv_any _ 2 (by omega) _ hF).mono ?_
  rintro e w2 ⟨rfl, n1, rfl⟩
  rw [A1.out, nz_pos (by omega : 2 ≠ 0)]
  go_wp2_with fail
  refine (inv_any _ 0 (by omega) _ (hF.drewN _)).mono ?_
  rintro e w2 ⟨rfl, n2, rfl⟩
  rw [nz_zero]
  go_wp2_with fail
  refine (mul_any _ 2 128 (by omega) (by omega) _ (hF.drewN _)).mono ?_
  rintro e w2 ⟨rfl, n3, rfl⟩
  rw [A2.out]
  go_wp2_with fail
  refine (mul_any _ 83 202 (by omega) (by omega) _ (hF.drewN _)).mono ?_
  rintro e w2 ⟨rfl, n4, rfl⟩
  rw [A3.out]
  go_wp2_with fail
  refine (pow_any _ 2 8 (by omega) _ (hF.drewN _)).mono ?_
  rintro e w2 ⟨rfl, n5, rfl⟩
  rw [A4.out]
  go_wp2
  go_ret
  exact ⟨rfl, Gw.Below.drewN hB _⟩
end Go.Proofs.Ytacobhmkkecahaa
