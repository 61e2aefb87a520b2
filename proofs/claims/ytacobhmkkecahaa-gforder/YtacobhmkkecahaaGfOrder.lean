/- For every input GfOrder returns true, and every argument reads behind the call as it did before: no condition. -/
import Derived.Test.YtacobhmkkecahaaRows
import Derived.ProofKit
import Derived.OpenShut
import Derived.Test.YtacobhmkkecahaaAns
namespace Go.Proofs.Ytacobhmkkecahaa.gfOrder
open Go.ChangeShapes Go.WideShapes Go.ChangeAt Go.RowKit Go.Shelf Gw

theorem own : ownKnob Try.prog.godebug = none := by kernel_rfl
set_option maxRecDepth 100000 in
set_option maxHeartbeats 1000000 in
theorem walk_zero (n m : Int) (h1 : -32768 ≤ n) (h2 : n ≤ 32767) (w : World) :
    Calls Try.prog 6 #[.int .u8 0, .int .i16 n, .int .i16 m] w fun e w' => e = .returned (.bool true) ∧ Below w.heap.size w w' := by
  go_enter Try.func6, Try.ntmps6
  go_wp2_with fail
  refine (new_any _).mono ?_
  rintro e w1 ⟨rfl, hF, hB⟩
  go_wp2_with fail
  refine (answers_any _).mono ?_
  rintro e wa ⟨rfl, hBa⟩
  have hF1 := hF.below hBa hF.lt
  have hB1 := hB.trans (hBa.mono hB.size)
  clear hF hB hBa
  go_wp2_with fail
  refine (pow_any _ 0 n (by omega) _ hF1).mono ?_
  rintro e w3 ⟨rfl, n1, rfl⟩
  go_wp2_with fail
  refine (rpow_any 0 n (by omega) (by omega) (by omega) _).mono ?_
  rintro e w3 ⟨rfl, rfl⟩
  go_wp2
  go_ret
  exact ⟨rfl, Gw.Below.drewN hB1 _⟩
theorem pow255 {a : Nat} (a0 : a ≠ 0) : Gf.gpz a 255 = 1 := by
  unfold Gf.gpz; rw [if_neg (by omega), if_neg a0]; rfl
set_option maxRecDepth 100000 in
set_option maxHeartbeats 1000000 in
theorem walk_pos (a : Nat) (n m : Int) (ha : a < 256) (a0 : a ≠ 0) (h1 : -32768 ≤ n) (h2 : n ≤ 32767) (h3 : -32768 ≤ m) (h4 : m ≤ 32767) (w : World) :
    Calls Try.prog 6 #[.int .u8 (a : Int), .int .i16 n, .int .i16 m] w fun e w' => e = .returned (.bool true) ∧ Below w.heap.size w w' := by
  have hz : ((a : Int) == 0) = false := beq_eq_false_iff_ne.2 (by omega)
  have A0 := Lib.hid a0
  clear a0
  go_enter Try.func6, Try.ntmps6
  go_wp2_with fail
  refine (new_any _).mono ?_
  rintro e w1 ⟨rfl, hF, hB⟩
  go_wp2_with fail
  refine (answers_any _).mono ?_
  rintro e wa ⟨rfl, hBa⟩
  have hF1 := hF.below hBa hF.lt
  have hB1 := hB.trans (hBa.mono hB.size)
  clear hF hB hBa
  go_wp2_with fail
  refine (pow_any _ a 255 ha _ hF1).mono ?_
  rintro e w3 ⟨rfl, n1, rfl⟩
  rw [pow255 A0.out]
  go_wp2_with fail
  refine (pow_any _ a n ha _ (hF1.drewN _)).mono ?_
  rintro e w3 ⟨rfl, n2, rfl⟩
  go_wp2_with fail
  refine (pow_any _ a m ha _ (hF1.drewN _)).mono ?_
  rintro e w3 ⟨rfl, n3, rfl⟩
  go_wp2_with fail
  refine (mul_any _ (Gf.gpz a n) (Gf.gpz a m) (Gf.gpz_lt _ _) (Gf.gpz_lt _ _) _ (hF1.drewN _)).mono ?_
  rintro e w3 ⟨rfl, n4, rfl⟩
  rw [Gf.gpz_add ha A0.out]
  go_wp2_with fail
  refine (pow_any _ a (n + m) ha _ (hF1.drewN _)).mono ?_
  rintro e w3 ⟨rfl, n5, rfl⟩
  go_wp2
  go_ret
  exact ⟨rfl, Gw.Below.drewN hB1 _⟩
theorem walk (a0 a1 a2 : Int) (w : World) (w0 : (Lit.int .u8 a0).wf = true) (w1 : (Lit.int .i16 a1).wf = true) (w2 : (Lit.int .i16 a2).wf = true) :
    Calls Try.prog 6 #[.int .u8 a0, .int .i16 a1, .int .i16 a2] w fun e w' => e = .returned (.bool true) ∧ Below w.heap.size w w' := by
  obtain ⟨h1, h2⟩ := bounds_u8 w0
  obtain ⟨h3, h4⟩ := bounds_i16 w1
  obtain ⟨h5, h6⟩ := bounds_i16 w2
  obtain ⟨a, rfl⟩ := Int.eq_ofNat_of_zero_le h1
  by_cases a0 : a = 0
  · subst a0; exact walk_zero a1 a2 h3 h4 w
  · exact walk_pos a a1 a2 (by omega) a0 h3 h4 h5 h6 w

set_option maxRecDepth 100000 in
theorem lifted (os : Os) (started : os.Started) (H : Type) (enc : TypeId × Value → H) :
    ReturnsInHanded {} Try.checked os 6 .any (Rows.gfOrderSpec.pre6 enc Try.prog Try.f6 Rows.gfOrderRow.domain false) (Rows.gfOrderSpec.post enc Try.prog Try.f6 false true false false) := by
  refine returnsInHanded_of_change (C := Try.checked) own started (by kernel_rfl) Try.func6
    (ChangeSpec.witness6 (enc := enc) (C := Try.checked) false ⟨#[], #[.int .u8 0, .int .i16 0, .int .i16 0], []⟩ 8 (by kernel_rfl) (by kernel_rfl) (by kernel_rfl) (by kernel_rfl)) ?_
  intro W base args ds gs before hval0 hW _hcnd _
  have hval : ∀ (j : Nat) t v, Try.f6.params[j]? = some t → args[j]? = some v → Value.okWide Try.prog W .any base t v := hval0
  have hW' := hW
  obtain ⟨p, q, hA0, hV, rfl, _hfz, _hnd⟩ := hW
  have hA : DataW.TrodAll enc Try.prog W 0 (fun _ => true) true Try.f6.params.toList args.toList ds p := hA0
  rw [Try.params6] at hA hval
  obtain ⟨v0, vs0, d0, ds0, p0, q0, hargs, rfl, rfl, h0, r0⟩ := trodAll_cons hA
  obtain ⟨v1, vs1, d1, ds1, p1, q1, rfl, rfl, rfl, h1, r1⟩ := trodAll_cons r0
  obtain ⟨v2, vs2, d2, ds2, p2, q2, rfl, rfl, rfl, h2, r2⟩ := trodAll_cons r1
  obtain ⟨rfl, rfl, rfl⟩ := trodAll_nil r2
  obtain rfl : args = #[v0, v1, v2] := by cases args; simp_all
  obtain ⟨rfl, rfl⟩ := trodVars_none hV
  obtain ⟨a0, rfl, rfl, rfl, w0⟩ := open_int Try.underlying5 (hval 0 5 v0 rfl rfl) h0
  obtain ⟨a1, rfl, rfl, rfl, w1⟩ := open_int Try.underlying34 (hval 1 34 v1 rfl rfl) h1
  obtain ⟨a2, rfl, rfl, rfl, w2⟩ := open_int Try.underlying34 (hval 2 34 v2 rfl rfl) h2
  clear hA0 hval0
  refine (walk a0 a1 a2 W w0 w1 w2).mono fun e W' ⟨he, bel⟩ => ?_
  subst he
  exact ⟨_, rfl, _, _, _, [], _, [], hW', trodAll_mk1 (shut_bool Try.underlying4 _), (trodAll_cons_mk (shut_int Try.underlying5 w0) (trodAll_cons_mk (shut_int Try.underlying34 w1) (trodAll_cons_mk (shut_int Try.underlying34 w2) trodAll_mk0))), rfl, bel.frame _, fun h => by cases h⟩

theorem over : Rows.gfOrderRow.holds Try.pinned (OpenSpec.ofChange Rows.gfOrderSpec) :=
  OpenClaim.holds_of_wide 6 Try.f6 rfl rfl rfl rfl rfl rfl rfl ⟨rfl, rfl, rfl, rfl, rfl⟩ rfl rfl rfl rfl rfl (by kernel_rfl) Try.func6 (by kernel_rfl)
    (of_decide_eq_true (by kernel_rfl)) (by unfold Func.isWrapper; first | (rw [if_pos (by decide +kernel)]; kernel_rfl) | (rw [if_neg (by decide +kernel)]; exact ⟨rfl, rfl⟩))
    (fun os started H enc _ => lifted os started H enc)

end Go.Proofs.Ytacobhmkkecahaa.gfOrder
namespace Go.Proofs.Ytacobhmkkecahaa
/-- The statement. -/
theorem gfOrder_holds : Rows.GfOrderSaid := gfOrder.over
#print axioms gfOrder_holds
end Go.Proofs.Ytacobhmkkecahaa

