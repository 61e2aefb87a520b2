/- For every input GfLaws returns true, and every argument reads behind the call as it did before: no condition. -/
import Derived.Test.YtacobhmkkecahaaRows
import Derived.ProofKit
import Derived.OpenShut
import Derived.Test.YtacobhmkkecahaaAns
namespace Go.Proofs.Ytacobhmkkecahaa.gfLaws
open Go.ChangeShapes Go.WideShapes Go.ChangeAt Go.RowKit Go.Shelf Gw

theorem own : ownKnob Try.prog.godebug = none := by kernel_rfl
theorem zero_test (a b : Nat) : ((Gf.gm a b : Int) == 0) = ((a : Int) == 0 || (b : Int) == 0) := by
  rw [Bool.eq_iff_iff]
  simp only [Bool.or_eq_true, beq_iff_eq]
  have := @Gf.gm_eq_zero a b
  omega
set_option maxRecDepth 100000 in
set_option maxHeartbeats 1000000 in
theorem walk_nat (a b c : Nat) (ha : a < 256) (hb : b < 256) (hc : c < 256) (w : World) (x y : Bool) (hx : ((a : Int) == 0) = x) (hy : ((b : Int) == 0) = y) :
    Calls Try.prog 5 #[.int .u8 (a : Int), .int .u8 (b : Int), .int .u8 (c : Int)] w fun e w' => e = .returned (.bool true) ∧ Below w.heap.size w w' := by
  have hz : ((Gf.gm a b : Int) == 0) = (x || y) := by rw [← hx, ← hy]; exact zero_test a b
  have hxor : bits .xor .u8 (b : Int) (c : Int) = ((b ^^^ c : Nat) : Int) := u8_xor_nat _ _ hb hc
  have hxor2 : bits .xor .u8 (Gf.gm a b : Int) (Gf.gm a c : Int) = ((Gf.gm a b ^^^ Gf.gm a c : Nat) : Int) := u8_xor_nat _ _ (Gf.gm_lt _ _) (Gf.gm_lt _ _)
  go_enter Try.func5, Try.ntmps5
  go_wp2_with fail
  refine (new_any _).mono ?_
  rintro e w1 ⟨rfl, hF, hB⟩
  go_wp2_with fail
  refine (answers_any _).mono ?_
  rintro e wa ⟨rfl, hBa⟩
  have hF1 := hF.below hBa hF.lt
  have hB1 := hB.trans (hBa.mono hB.size)
  clear hF hB hBa
  go_wp2_with fail
  refine (mul_any _ a b ha hb _ hF1).mono ?_
  rintro e w3 ⟨rfl, n1, rfl⟩
  go_wp2_with fail
  refine (mul_any _ b a hb ha _ (hF1.drewN _)).mono ?_
  rintro e w3 ⟨rfl, n2, rfl⟩
  rw [Gf.gm_comm b a]
  go_wp2_with fail
  refine (mul_any _ b c hb hc _ (hF1.drewN _)).mono ?_
  rintro e w3 ⟨rfl, n3, rfl⟩
  go_wp2_with fail
  refine (mul_any _ a (Gf.gm b c) ha (Gf.gm_lt _ _) _ (hF1.drewN _)).mono ?_
  rintro e w3 ⟨rfl, n4, rfl⟩
  go_wp2_with fail
  refine (mul_any _ a b ha hb _ (hF1.drewN _)).mono ?_
  rintro e w3 ⟨rfl, n5, rfl⟩
  go_wp2_with fail
  refine (mul_any _ (Gf.gm a b) c (Gf.gm_lt _ _) hc _ (hF1.drewN _)).mono ?_
  rintro e w3 ⟨rfl, n6, rfl⟩
  rw [Gf.gm_assoc ha hb hc]
  go_wp2_with fail
  refine (mul_any _ a (b ^^^ c) ha (Gf.xor_lt hb hc) _ (hF1.drewN _)).mono ?_
  rintro e w3 ⟨rfl, n7, rfl⟩
  rw [Gf.gm_xor_right ha hb hc]
  go_wp2_with fail
  refine (mul_any _ a b ha hb _ (hF1.drewN _)).mono ?_
  rintro e w3 ⟨rfl, n8, rfl⟩
  go_wp2_with fail
  refine (mul_any _ a c ha hc _ (hF1.drewN _)).mono ?_
  rintro e w3 ⟨rfl, n9, rfl⟩
  go_wp2_with fail
  refine (mul_any _ a 1 ha (by omega) _ (hF1.drewN _)).mono ?_
  rintro e w3 ⟨rfl, n10, rfl⟩
  rw [Gf.gm_one ha]
  go_wp2_with fail
  refine (mul_any _ a b ha hb _ (hF1.drewN _)).mono ?_
  rintro e w3 ⟨rfl, n11, rfl⟩
  cases x <;> cases y
  all_goals
    go_wp2
    go_ret
    exact ⟨rfl, Gw.Below.drewN hB1 _⟩
theorem walk (a0 a1 a2 : Int) (w : World) (w0 : (Lit.int .u8 a0).wf = true) (w1 : (Lit.int .u8 a1).wf = true) (w2 : (Lit.int .u8 a2).wf = true) :
    Calls Try.prog 5 #[.int .u8 a0, .int .u8 a1, .int .u8 a2] w fun e w' => e = .returned (.bool true) ∧ Below w.heap.size w w' := by
  obtain ⟨h1, h2⟩ := bounds_u8 w0
  obtain ⟨h3, h4⟩ := bounds_u8 w1
  obtain ⟨h5, h6⟩ := bounds_u8 w2
  obtain ⟨a, rfl⟩ := Int.eq_ofNat_of_zero_le h1
  obtain ⟨b, rfl⟩ := Int.eq_ofNat_of_zero_le h3
  obtain ⟨c, rfl⟩ := Int.eq_ofNat_of_zero_le h5
  exact walk_nat a b c (by omega) (by omega) (by omega) w _ _ rfl rfl

set_option maxRecDepth 100000 in
theorem lifted (os : Os) (started : os.Started) (H : Type) (enc : TypeId × Value → H) :
    ReturnsInHanded {} Try.checked os 5 .any (Rows.gfLawsSpec.pre6 enc Try.prog Try.f5 Rows.gfLawsRow.domain false) (Rows.gfLawsSpec.post enc Try.prog Try.f5 false true false false) := by
  refine returnsInHanded_of_change (C := Try.checked) own started (by kernel_rfl) Try.func5
    (ChangeSpec.witness6 (enc := enc) (C := Try.checked) false ⟨#[], #[.int .u8 0, .int .u8 0, .int .u8 0], []⟩ 8 (by kernel_rfl) (by kernel_rfl) (by kernel_rfl) (by kernel_rfl)) ?_
  intro W base args ds gs before hval0 hW _hcnd _
  have hval : ∀ (j : Nat) t v, Try.f5.params[j]? = some t → args[j]? = some v → Value.okWide Try.prog W .any base t v := hval0
  have hW' := hW
  obtain ⟨p, q, hA0, hV, rfl, _hfz, _hnd⟩ := hW
  have hA : DataW.TrodAll enc Try.prog W 0 (fun _ => true) true Try.f5.params.toList args.toList ds p := hA0
  rw [Try.params5] at hA hval
  obtain ⟨v0, vs0, d0, ds0, p0, q0, hargs, rfl, rfl, h0, r0⟩ := trodAll_cons hA
  obtain ⟨v1, vs1, d1, ds1, p1, q1, rfl, rfl, rfl, h1, r1⟩ := trodAll_cons r0
  obtain ⟨v2, vs2, d2, ds2, p2, q2, rfl, rfl, rfl, h2, r2⟩ := trodAll_cons r1
  obtain ⟨rfl, rfl, rfl⟩ := trodAll_nil r2
  obtain rfl : args = #[v0, v1, v2] := by cases args; simp_all
  obtain ⟨rfl, rfl⟩ := trodVars_none hV
  obtain ⟨a0, rfl, rfl, rfl, w0⟩ := open_int Try.underlying5 (hval 0 5 v0 rfl rfl) h0
  obtain ⟨a1, rfl, rfl, rfl, w1⟩ := open_int Try.underlying5 (hval 1 5 v1 rfl rfl) h1
  obtain ⟨a2, rfl, rfl, rfl, w2⟩ := open_int Try.underlying5 (hval 2 5 v2 rfl rfl) h2
  clear hA0 hval0
  refine (walk a0 a1 a2 W w0 w1 w2).mono fun e W' ⟨he, bel⟩ => ?_
  subst he
  exact ⟨_, rfl, _, _, _, [], _, [], hW', trodAll_mk1 (shut_bool Try.underlying4 _), (trodAll_cons_mk (shut_int Try.underlying5 w0) (trodAll_cons_mk (shut_int Try.underlying5 w1) (trodAll_cons_mk (shut_int Try.underlying5 w2) trodAll_mk0))), rfl, bel.frame _, fun h => by cases h⟩

theorem over : Rows.gfLawsRow.holds Try.pinned (OpenSpec.ofChange Rows.gfLawsSpec) :=
  OpenClaim.holds_of_wide 5 Try.f5 rfl rfl rfl rfl rfl rfl rfl ⟨rfl, rfl, rfl, rfl, rfl⟩ rfl rfl rfl rfl rfl (by kernel_rfl) Try.func5 (by kernel_rfl)
    (of_decide_eq_true (by kernel_rfl)) (by unfold Func.isWrapper; first | (rw [if_pos (by decide +kernel)]; kernel_rfl) | (rw [if_neg (by decide +kernel)]; exact ⟨rfl, rfl⟩))
    (fun os started H enc _ => lifted os started H enc)

end Go.Proofs.Ytacobhmkkecahaa.gfLaws
namespace Go.Proofs.Ytacobhmkkecahaa
/-- The statement. -/
theorem gfLaws_holds : Rows.GfLawsSaid := gfLaws.over
#print axioms gfLaws_holds
end Go.Proofs.Ytacobhmkkecahaa

