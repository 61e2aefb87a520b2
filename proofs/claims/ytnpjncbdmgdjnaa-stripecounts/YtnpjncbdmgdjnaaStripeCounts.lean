/- For every input StripeCounts returns true, and every argument reads behind the call as it did before: no condition. -/
import Derived.Test.YtnpjncbdmgdjnaaRows
import Derived.ProofKit
import Derived.OpenShut
import Derived.Test.YtnpjncbdmgdjnaaSta
import Derived.Test.YtnpjncbdmgdjnaaSsm
namespace Go.Proofs.Ytnpjncbdmgdjnaa.stripeCounts
open Go.ChangeShapes Go.WideShapes Go.ChangeAt Go.RowKit Go.Shelf Gw Pol

theorem own : ownKnob Try.prog.godebug = none := by kernel_rfl
set_option maxRecDepth 100000 in
set_option maxHeartbeats 1000000 in
theorem walk (a0 a1 : Int) (w : World) (w0 : (Lit.int .i64 a0).wf = true) (w1 : (Lit.int .i64 a1).wf = true) :
    Calls Try.prog 4 #[.int .i64 a0, .int .i64 a1] w fun e w' => e = .returned (.bool true) ∧ Below w.heap.size w w' := by
  have hb0 : -9223372036854775808 ≤ a0 ∧ a0 ≤ 9223372036854775807 := by simpa [Lit.wf, IntKind.min, IntKind.max, IntKind.signed, IntKind.bits] using w0
  have hb1 : -9223372036854775808 ≤ a1 ∧ a1 ≤ 9223372036854775807 := by simpa [Lit.wf, IntKind.min, IntKind.max, IntKind.signed, IntKind.bits] using w1
  have hcol := scols_any a0 a1 w0 w1 w
  clear w0 w1
  by_cases hbad : a0 < 0 ∨ a1 < 1
  · rw [show Sp.colsZ a0 a1 = 0 by unfold Sp.colsZ; rw [if_pos (by omega)]] at hcol
    have HC := Lib.hid hcol
    clear hcol
    by_cases ha : a0 < 0
    all_goals
      go_enter Try.func4, Try.ntmps4
      go_wp2_with fail
      refine HC.out.mono ?_
      rintro e w1 ⟨rfl, hb⟩
      go_wp2_with fail
      refine (answers_any w1).mono ?_
      rintro e w2 ⟨rfl, hb2⟩
      go_wp2
      go_ret
      exact ⟨rfl, hb.trans (hb2.mono hb.size)⟩
  · obtain ⟨S, rfl⟩ : ∃ S : Nat, a0 = S := ⟨a0.toNat, by omega⟩
    obtain ⟨K, rfl⟩ : ∃ K : Nat, a1 = K := ⟨a1.toNat, by omega⟩
    rw [Sp.colsZ_nat] at hcol
    obtain ⟨n, hn⟩ : ∃ n, n = Sp.cnt S K := ⟨_, rfl⟩
    rw [← hn] at hcol
    have HC := Lib.hid hcol
    clear hcol
    by_cases hS : S = 0
    · subst hS
      obtain rfl : n = 0 := by rw [hn]; simp [Sp.cnt]
      clear hn
      go_enter Try.func4, Try.ntmps4
      go_wp2_with fail
      refine HC.out.mono ?_
      rintro e w1 ⟨rfl, hb⟩
      go_wp2_with fail
      refine (answers_any w1).mono ?_
      rintro e w2 ⟨rfl, hb2⟩
      go_wp2
      go_ret
      exact ⟨rfl, hb.trans (hb2.mono hb.size)⟩
    · obtain ⟨T, hT⟩ : ∃ T, T = S - 1 := ⟨_, rfl⟩
      obtain ⟨q, hq⟩ : ∃ q, q = T / K := ⟨_, rfl⟩
      have hnq : n = q + 1 := by rw [hn, hq, hT]; unfold Sp.cnt; rw [if_neg (by omega)]
      have hqT : q ≤ T := by rw [hq]; exact Nat.div_le_self _ _
      have hwT : IntKind.i64.wrap ((S : Int) - 1) = (T : Int) := by rw [IntKind.wrap_i64]; omega
      have htd : ((T : Int)).tdiv (K : Int) = (q : Int) := by rw [hq, Int.tdiv_eq_ediv_of_nonneg (by omega)]; simp
      have hwq : IntKind.i64.wrap (q : Int) = (q : Int) := by rw [IntKind.wrap_i64]; omega
      have hwn : IntKind.i64.wrap ((n : Int) - 1) = (q : Int) := by rw [IntKind.wrap_i64]; omega
      have hK0 : ((K : Int) == 0) = false := beq_eq_false_iff_ne.2 (by omega)
      have hK : 1 ≤ K := by omega
      have hS0 : 0 < S := by omega
      have hSz : ((S : Int) == 0) = false := beq_eq_false_iff_ne.2 (by omega)
      have HNQ := Lib.hid hnq
      clear hn hT hq hnq hqT hbad
      go_enter Try.func4, Try.ntmps4
      go_wp2_with fail
      refine HC.out.mono ?_
      rintro e w1 ⟨rfl, hb⟩
      go_wp2_with fail
      refine (answers_any w1).mono ?_
      rintro e w2 ⟨rfl, hb2⟩
      go_wp2
      go_ret
      exact ⟨rfl, hb.trans (hb2.mono hb.size)⟩

set_option maxRecDepth 100000 in
theorem lifted (os : Os) (started : os.Started) (H : Type) (enc : TypeId × Value → H) :
    ReturnsInHanded {} Try.checked os 4 .any (Rows.stripeCountsSpec.pre6 enc Try.prog Try.f4 Rows.stripeCountsRow.domain false) (Rows.stripeCountsSpec.post enc Try.prog Try.f4 false true false false) := by
  refine returnsInHanded_of_change (C := Try.checked) own started (by kernel_rfl) Try.func4
    (ChangeSpec.witness6 (enc := enc) (C := Try.checked) false ⟨#[], #[.int .i64 0, .int .i64 0], []⟩ 8 (by kernel_rfl) (by kernel_rfl) (by kernel_rfl) (by kernel_rfl)) ?_
  intro W base args ds gs before hval0 hW _hcnd _
  have hval : ∀ (j : Nat) t v, Try.f4.params[j]? = some t → args[j]? = some v → Value.okWide Try.prog W .any base t v := hval0
  have hW' := hW
  obtain ⟨p, q, hA0, hV, rfl, _hfz, _hnd⟩ := hW
  have hA : DataW.TrodAll enc Try.prog W 0 (fun _ => true) true Try.f4.params.toList args.toList ds p := hA0
  rw [Try.params4] at hA hval
  obtain ⟨v0, vs0, d0, ds0, p0, q0, hargs, rfl, rfl, h0, r0⟩ := trodAll_cons hA
  obtain ⟨v1, vs1, d1, ds1, p1, q1, rfl, rfl, rfl, h1, r1⟩ := trodAll_cons r0
  obtain ⟨rfl, rfl, rfl⟩ := trodAll_nil r1
  obtain rfl : args = #[v0, v1] := by cases args; simp_all
  obtain ⟨rfl, rfl⟩ := trodVars_none hV
  obtain ⟨a0, rfl, rfl, rfl, w0⟩ := open_int Try.underlying3 (hval 0 3 v0 rfl rfl) h0
  obtain ⟨a1, rfl, rfl, rfl, w1⟩ := open_int Try.underlying3 (hval 1 3 v1 rfl rfl) h1
  clear hA0 hval0
  refine (walk a0 a1 W w0 w1).mono fun e W' ⟨he, bel⟩ => ?_
  subst he
  exact ⟨_, rfl, _, _, _, [], _, [], hW', trodAll_mk1 (shut_bool Try.underlying4 _), (trodAll_cons_mk (shut_int Try.underlying3 w0) (trodAll_cons_mk (shut_int Try.underlying3 w1) trodAll_mk0)), rfl, bel.frame _, fun h => by cases h⟩

theorem over : Rows.stripeCountsRow.holds Try.pinned (OpenSpec.ofChange Rows.stripeCountsSpec) :=
  OpenClaim.holds_of_wide 4 Try.f4 rfl rfl rfl rfl rfl rfl rfl ⟨rfl, rfl, rfl, rfl, rfl⟩ rfl rfl rfl rfl rfl (by kernel_rfl) Try.func4 (by kernel_rfl)
    (of_decide_eq_true (by kernel_rfl)) (by unfold Func.isWrapper; first | (rw [if_pos (by decide +kernel)]; kernel_rfl) | (rw [if_neg (by decide +kernel)]; exact ⟨rfl, rfl⟩))
    (fun os started H enc _ => lifted os started H enc)

end Go.Proofs.Ytnpjncbdmgdjnaa.stripeCounts
namespace Go.Proofs.Ytnpjncbdmgdjnaa
/-- The statement. -/
theorem stripeCounts_holds : Rows.StripeCountsSaid := stripeCounts.over
#print axioms stripeCounts_holds
end Go.Proofs.Ytnpjncbdmgdjnaa

