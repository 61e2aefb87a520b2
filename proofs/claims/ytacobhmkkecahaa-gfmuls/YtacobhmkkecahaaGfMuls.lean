/- For every input GfMuls returns true, and every argument reads behind the call as it did before: no condition. -/
import Derived.Test.YtacobhmkkecahaaRows
import Derived.ProofKit
import Derived.OpenShut
import Derived.Test.YtacobhmkkecahaaAns
namespace Go.Proofs.Ytacobhmkkecahaa.gfMuls
open Go.ChangeShapes Go.WideShapes Go.ChangeAt Go.RowKit Go.Shelf Gw

theorem own : ownKnob Try.prog.godebug = none := by kernel_rfl
set_option maxRecDepth 100000 in
set_option maxHeartbeats 1000000 in
theorem walk_zero (b : Nat) (hb : b < 256) (w : World) :
    Calls Try.prog 3 #[.int .u8 0, .int .u8 (b : Int)] w fun e w' => e = .returned (.bool true) ∧ Below w.heap.size w w' := by
  go_enter Try.func3, Try.ntmps3
  go_wp2_with fail
  refine (new_any _).mono ?_
  rintro e w1 ⟨rfl, hF, hB⟩
  go_wp2_with fail
  refine (inv_any _ 0 (by omega) _ hF).mono ?_
  rintro e w2 ⟨rfl, n1, rfl⟩
  rw [show Gf.inv 0 = 0 from rfl, nz_zero]
  go_wp2_with fail
  refine (div_any _ b 0 hb (by omega) _ (hF.drewN _)).mono ?_
  rintro e w2 ⟨rfl, n2, rfl⟩
  rw [show Gf.dv b 0 = 0 from Gf.gm_zero_right b, nz_zero]
  go_wp2_with fail
  refine (answers_any _).mono ?_
  rintro e w2 ⟨rfl, hBa⟩
  go_wp2_with fail
  refine (mul_any _ 0 b (by omega) hb _ (hF.below (Gw.drewN_below hBa) hF.lt)).mono ?_
  rintro e w3 ⟨rfl, n3, rfl⟩
  rw [Gf.gm_zero_left]
  go_wp2
  go_ret
  exact ⟨rfl, (hB.trans (Gw.Below.drewN ((Gw.drewN_below hBa).mono hB.size) _))⟩
set_option maxRecDepth 100000 in
set_option maxHeartbeats 1000000 in
theorem walk_pos (a b : Nat) (ha : a < 256) (hb : b < 256) (a0 : a ≠ 0) (w : World) :
    Calls Try.prog 3 #[.int .u8 (a : Int), .int .u8 (b : Int)] w fun e w' => e = .returned (.bool true) ∧ Below w.heap.size w w' := by
  have h1 : ((a : Int) == 0) = false := beq_eq_false_iff_ne.2 (by omega)
  have A0 := Lib.hid a0
  clear a0
  go_enter Try.func3, Try.ntmps3
  go_wp2_with fail
  refine (new_any _).mono ?_
  rintro e w1 ⟨rfl, hF, hB⟩
  go_wp2_with fail
  refine (inv_any _ a ha _ hF).mono ?_
  rintro e w2 ⟨rfl, n1, rfl⟩
  rw [nz_pos A0.out]
  go_wp2_with fail
  refine (div_any _ b a hb ha _ (hF.drewN _)).mono ?_
  rintro e w2 ⟨rfl, n2, rfl⟩
  rw [nz_pos A0.out]
  go_wp2_with fail
  refine (answers_any _).mono ?_
  rintro e w2 ⟨rfl, hBa⟩
  go_wp2_with fail
  refine (mul_any _ a b ha hb _ (hF.below (Gw.drewN_below hBa) hF.lt)).mono ?_
  rintro e w3 ⟨rfl, n3, rfl⟩
  go_wp2_with fail
  refine (rmul_any a b ha hb _).mono ?_
  rintro e w3 ⟨rfl, rfl⟩
  go_wp2_with fail
  refine (rinv_any a ha _).mono ?_
  rintro e w3 ⟨rfl, rfl⟩
  go_wp2_with fail
  refine (rmul_any (Gf.dv b a) a (Gf.gm_lt _ _) ha _).mono ?_
  rintro e w3 ⟨rfl, rfl⟩
  rw [Gf.gm_dv hb ha A0.out]
  go_wp2
  go_ret
  exact ⟨rfl, (hB.trans (Gw.Below.drewN ((Gw.drewN_below hBa).mono hB.size) _))⟩
theorem walk (a0 a1 : Int) (w : World) (w0 : (Lit.int .u8 a0).wf = true) (w1 : (Lit.int .u8 a1).wf = true) :
    Calls Try.prog 3 #[.int .u8 a0, .int .u8 a1] w fun e w' => e = .returned (.bool true) ∧ Below w.heap.size w w' := by
  obtain ⟨h1, h2⟩ := bounds_u8 w0
  obtain ⟨h3, h4⟩ := bounds_u8 w1
  obtain ⟨a, rfl⟩ := Int.eq_ofNat_of_zero_le h1
  obtain ⟨b, rfl⟩ := Int.eq_ofNat_of_zero_le h3
  by_cases a0 : a = 0
  · subst a0; exact walk_zero b (by omega) w
  · exact walk_pos a b (by omega) (by omega) a0 w

set_option maxRecDepth 100000 in
theorem lifted (os : Os) (started : os.Started) (H : Type) (enc : TypeId × Value → H) :
    ReturnsInHanded {} Try.checked os 3 .any (Rows.gfMulsSpec.pre6 enc Try.prog Try.f3 Rows.gfMulsRow.domain false) (Rows.gfMulsSpec.post enc Try.prog Try.f3 false true false false) := by
  refine returnsInHanded_of_change (C := Try.checked) own started (by kernel_rfl) Try.func3
    (ChangeSpec.witness6 (enc := enc) (C := Try.checked) false ⟨#[], #[.int .u8 0, .int .u8 0], []⟩ 8 (by kernel_rfl) (by kernel_rfl) (by kernel_rfl) (by kernel_rfl)) ?_
  intro W base args ds gs before hval0 hW _hcnd _
  have hval : ∀ (j : Nat) t v, Try.f3.params[j]? = some t → args[j]? = some v → Value.okWide Try.prog W .any base t v := hval0
  have hW' := hW
  obtain ⟨p, q, hA0, hV, rfl, _hfz, _hnd⟩ := hW
  have hA : DataW.TrodAll enc Try.prog W 0 (fun _ => true) true Try.f3.params.toList args.toList ds p := hA0
  rw [Try.params3] at hA hval
  obtain ⟨v0, vs0, d0, ds0, p0, q0, hargs, rfl, rfl, h0, r0⟩ := trodAll_cons hA
  obtain ⟨v1, vs1, d1, ds1, p1, q1, rfl, rfl, rfl, h1, r1⟩ := trodAll_cons r0
  obtain ⟨rfl, rfl, rfl⟩ := trodAll_nil r1
  obtain rfl : args = #[v0, v1] := by cases args; simp_all
  obtain ⟨rfl, rfl⟩ := trodVars_none hV
  obtain ⟨a0, rfl, rfl, rfl, w0⟩ := open_int Try.underlying5 (hval 0 5 v0 rfl rfl) h0
  obtain ⟨a1, rfl, rfl, rfl, w1⟩ := open_int Try.underlying5 (hval 1 5 v1 rfl rfl) h1
  clear hA0 hval0
  refine (walk a0 a1 W w0 w1).mono fun e W' ⟨he, bel⟩ => ?_
  subst he
  exact ⟨_, rfl, _, _, _, [], _, [], hW', trodAll_mk1 (shut_bool Try.underlying4 _), (trodAll_cons_mk (shut_int Try.underlying5 w0) (trodAll_cons_mk (shut_int Try.underlying5 w1) trodAll_mk0)), rfl, bel.frame _, fun h => by cases h⟩

theorem over : Rows.gfMulsRow.holds Try.pinned (OpenSpec.ofChange Rows.gfMulsSpec) :=
  OpenClaim.holds_of_wide 3 Try.f3 rfl rfl rfl rfl rfl rfl rfl ⟨rfl, rfl, rfl, rfl, rfl⟩ rfl rfl rfl rfl rfl (by kernel_rfl) Try.func3 (by kernel_rfl)
    (of_decide_eq_true (by kernel_rfl)) (by unfold Func.isWrapper; first | (rw [if_pos (by decide +kernel)]; kernel_rfl) | (rw [if_neg (by decide +kernel)]; exact ⟨rfl, rfl⟩))
    (fun os started H enc _ => lifted os started H enc)

end Go.Proofs.Ytacobhmkkecahaa.gfMuls
namespace Go.Proofs.Ytacobhmkkecahaa
/-- The statement. -/
theorem gfMuls_holds : Rows.GfMulsSaid := gfMuls.over
#print axioms gfMuls_holds
end Go.Proofs.Ytacobhmkkecahaa

