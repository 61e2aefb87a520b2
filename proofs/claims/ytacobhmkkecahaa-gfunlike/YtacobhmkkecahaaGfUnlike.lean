/- For every input GfUnlike returns true, and every argument reads behind the call as it did before: no condition. -/
import Derived.Test.YtacobhmkkecahaaRows
import Derived.ProofKit
import Derived.OpenShut
import Derived.Test.YtacobhmkkecahaaAns
namespace Go.Proofs.Ytacobhmkkecahaa.gfUnlike
open Go.ChangeShapes Go.WideShapes Go.ChangeAt Go.RowKit Go.Shelf Gw

theorem own : ownKnob Try.prog.godebug = none := by kernel_rfl
set_option maxRecDepth 100000 in
set_option maxHeartbeats 1000000 in
theorem walk_zero (a b : Nat) (ha : a < 256) (w : World) :
    Calls Try.prog 7 #[.int .u8 (a : Int), .int .u8 (b : Int), .int .u8 0] w fun e w' => e = .returned (.bool true) ∧ Below w.heap.size w w' := by
  go_enter Try.func7, Try.ntmps7
  go_wp2_with fail
  refine (new_any _).mono ?_
  rintro e w1 ⟨rfl, hF, hB⟩
  go_wp2_with fail
  refine (answers_any _).mono ?_
  rintro e wa ⟨rfl, hBa⟩
  have hF1 := hF.below hBa hF.lt
  have hB1 := hB.trans (hBa.mono hB.size)
  clear hF hB hBa
  go_wp2_with fail
  refine (mul_any _ a 0 ha (by omega) _ hF1).mono ?_
  rintro e w3 ⟨rfl, n1, rfl⟩
  rw [Gf.gm_zero_right]
  go_wp2
  go_ret
  exact ⟨rfl, Gw.Below.drewN hB1 _⟩
set_option maxRecDepth 100000 in
set_option maxHeartbeats 1000000 in
theorem walk_pos (a b c : Nat) (ha : a < 256) (hb : b < 256) (hc : c < 256) (c0 : c ≠ 0) (w : World) (x : Bool) (hx : ((a : Int) == (b : Int)) = x) :
    Calls Try.prog 7 #[.int .u8 (a : Int), .int .u8 (b : Int), .int .u8 (c : Int)] w fun e w' => e = .returned (.bool true) ∧ Below w.heap.size w w' := by
  have hz : ((c : Int) == 0) = false := beq_eq_false_iff_ne.2 (by omega)
  have hy : ((Gf.gm a c : Int) == (Gf.gm b c : Int)) = x := by
    rw [← hx, Bool.eq_iff_iff, beq_iff_eq, beq_iff_eq]
    constructor
    · intro h; rw [Gf.gm_cancel ha hb hc c0 (by omega)]
    · intro h; rw [show a = b from by omega]
  have A0 := Lib.hid c0
  clear c0
  go_enter Try.func7, Try.ntmps7
  go_wp2_with fail
  refine (new_any _).mono ?_
  rintro e w1 ⟨rfl, hF, hB⟩
  go_wp2_with fail
  refine (mul_any _ a c ha hc _ hF).mono ?_
  rintro e w3 ⟨rfl, n1, rfl⟩
  go_wp2_with fail
  refine (div_any _ (Gf.gm a c) c (Gf.gm_lt _ _) hc _ (hF.drewN _)).mono ?_
  rintro e w3 ⟨rfl, n2, rfl⟩
  rw [Gf.dv_gm ha hc A0.out, nz_pos A0.out]
  go_wp2_with fail
  refine (answers_any _).mono ?_
  rintro e wa ⟨rfl, hBa⟩
  have hF1 := hF.below (Gw.drewN_below hBa) hF.lt
  have hB1 := hB.trans ((Gw.drewN_below hBa).mono hB.size)
  clear hF hB hBa
  go_wp2_with fail
  refine (mul_any _ a c ha hc _ hF1).mono ?_
  rintro e w3 ⟨rfl, n3, rfl⟩
  go_wp2_with fail
  refine (mul_any _ b c hb hc _ (hF1.drewN _)).mono ?_
  rintro e w3 ⟨rfl, n4, rfl⟩
  cases x
  all_goals
    go_wp2
    go_ret
    exact ⟨rfl, Gw.Below.drewN hB1 _⟩
theorem walk (a0 a1 a2 : Int) (w : World) (w0 : (Lit.int .u8 a0).wf = true) (w1 : (Lit.int .u8 a1).wf = true) (w2 : (Lit.int .u8 a2).wf = true) :
    Calls Try.prog 7 #[.int .u8 a0, .int .u8 a1, .int .u8 a2] w fun e w' => e = .returned (.bool true) ∧ Below w.heap.size w w' := by
  obtain ⟨h1, h2⟩ := bounds_u8 w0
  obtain ⟨h3, h4⟩ := bounds_u8 w1
  obtain ⟨h5, h6⟩ := bounds_u8 w2
  obtain ⟨a, rfl⟩ := Int.eq_ofNat_of_zero_le h1
  obtain ⟨b, rfl⟩ := Int.eq_ofNat_of_zero_le h3
  obtain ⟨c, rfl⟩ := Int.eq_ofNat_of_zero_le h5
  by_cases c0 : c = 0
  · subst c0; exact walk_zero a b (by omega) w
  · exact walk_pos a b c (by omega) (by omega) (by omega) c0 w _ rfl

set_option maxRecDepth 100000 in
theorem lifted (os : Os) (started : os.Started) (H : Type) (enc : TypeId × Value → H) :
    ReturnsInHanded {} Try.checked os 7 .any (Rows.gfUnlikeSpec.pre6 enc Try.prog Try.f7 Rows.gfUnlikeRow.domain false) (Rows.gfUnlikeSpec.post enc Try.prog Try.f7 false true false false) := by
  refine returnsInHanded_of_change (C := Try.checked) own started (by kernel_rfl) Try.func7
    (ChangeSpec.witness6 (enc := enc) (C := Try.checked) false ⟨#[], #[.int .u8 0, .int .u8 0, .int .u8 0], []⟩ 8 (by kernel_rfl) (by kernel_rfl) (by kernel_rfl) (by kernel_rfl)) ?_
  intro W base args ds gs before hval0 hW _hcnd _
  have hval : ∀ (j : Nat) t v, Try.f7.params[j]? = some t → args[j]? = some v → Value.okWide Try.prog W .any base t v := hval0
  have hW' := hW
  obtain ⟨p, q, hA0, hV, rfl, _hfz, _hnd⟩ := hW
  have hA : DataW.TrodAll enc Try.prog W 0 (fun _ => true) true Try.f7.params.toList args.toList ds p := hA0
  rw [Try.params7] at hA hval
  obtain ⟨v0, vs0, d0, ds0, p0, q0, hargs, rfl, rfl, h0, r0⟩ := trodAll_cons hA
  obtain ⟨v1, vs1, d1, ds1, p1, q1, rfl, rfl, rfl, h1, r1⟩ := trodAll_cons r0
  obtain ⟨v2, vs2, d2, ds2, p2, q2, rfl, rfl, rfl, h2, r2⟩ := trodAll_cons r1
  obtain ⟨rfl, rfl, rfl⟩ := trodAll_nil r2
  obtain rfl : args = #[v0, v1, v2] := by cases args; simp_all
  obtain ⟨rfl, rfl⟩ := trodVars_none hV
  obtain ⟨a0, rfl, rfl, rfl, w0⟩ := open_int Try.underlying5 (hval 0 5 v0 rfl rfl) h0
  obtain ⟨a1, rfl, rfl, rfl, w1⟩ := open_int Try.underlying5 (hval 1 5 v1 rfl rfl) h1
  obtain ⟨a2, rfl, rfl, rfl, w2⟩ := open_int Try.underlying5 (hval 2 5 v2 rfl rfl) h2
  clear hA0 hval0
  refine (walk a0 a1 a2 W w0 w1 w2).mono fun e W' ⟨he, bel⟩ => ?_
  subst he
  exact ⟨_, rfl, _, _, _, [], _, [], hW', trodAll_mk1 (shut_bool Try.underlying4 _), (trodAll_cons_mk (shut_int Try.underlying5 w0) (trodAll_cons_mk (shut_int Try.underlying5 w1) (trodAll_cons_mk (shut_int Try.underlying5 w2) trodAll_mk0))), rfl, bel.frame _, fun h => by cases h⟩

theorem over : Rows.gfUnlikeRow.holds Try.pinned (OpenSpec.ofChange Rows.gfUnlikeSpec) :=
  OpenClaim.holds_of_wide 7 Try.f7 rfl rfl rfl rfl rfl rfl rfl ⟨rfl, rfl, rfl, rfl, rfl⟩ rfl rfl rfl rfl rfl (by kernel_rfl) Try.func7 (by kernel_rfl)
    (of_decide_eq_true (by kernel_rfl)) (by unfold Func.isWrapper; first | (rw [if_pos (by decide +kernel)]; kernel_rfl) | (rw [if_neg (by decide +kernel)]; exact ⟨rfl, rfl⟩))
    (fun os started H enc _ => lifted os started H enc)

end Go.Proofs.Ytacobhmkkecahaa.gfUnlike
namespace Go.Proofs.Ytacobhmkkecahaa
/-- The statement. -/
theorem gfUnlike_holds : Rows.GfUnlikeSaid := gfUnlike.over
#print axioms gfUnlike_holds
end Go.Proofs.Ytacobhmkkecahaa

