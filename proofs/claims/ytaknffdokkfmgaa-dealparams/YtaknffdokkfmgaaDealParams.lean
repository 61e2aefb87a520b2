/- For every input DealParams returns true, and every argument reads behind the call as it did before: no condition. -/
import Derived.ProofKit
import Derived.OpenShut
import Derived.Test.YtaknffdokkfmgaaRows
import Derived.Test.YtaknffdokkfmgaaJ2
import Derived.Test.YtaknffdokkfmgaaJ5
import Derived.Test.YtaknffdokkfmgaaJ14
namespace Go.Proofs.Ytaknffdokkfmgaa.dealParams
open Go.ChangeShapes Go.WideShapes Go.ChangeAt Go.RowKit Go.Shelf Gw Pol

theorem own : ownKnob Try.prog.godebug = none := by kernel_rfl
set_option maxRecDepth 100000 in
set_option maxHeartbeats 1000000 in
theorem walk (a0 T0 K0 E0 R0 : Int) (w : World) (w0 : (Lit.int .i64 a0).wf = true ∧ (Lit.int .i64 T0).wf = true ∧ (Lit.int .i64 K0).wf = true ∧ (Lit.int .i64 E0).wf = true ∧ (Lit.int .i64 R0).wf = true) : Calls Try.prog 3 #[pv a0 T0 K0 E0 R0] w fun e w' => e = .returned (.bool true) ∧ Below w.heap.size w w' := by
  obtain ⟨w1, hw1⟩ : ∃ w1, w1 = w.alloc (.cells #[.int .i64 a0, .int .i64 T0, .int .i64 K0, .int .i64 E0, .int .i64 R0] 23) := ⟨_, rfl⟩
  have hpb1 := Pbx.new w 23 a0 T0 K0 E0 R0
  have hb1 : Below w.heap.size w w1 := by rw [hw1]; exact (Below.refl _ w).alloc (Nat.le_refl _) _
  rw [← hw1] at hpb1
  have HPB := Lib.hid hpb1
  have HPL := Lib.hid hpb1.lt
  have HB1 := Lib.hid hb1
  clear hpb1 hb1
  go_enter Try.func3, Try.ntmps3
  go_wp2
  rw [← hw1]
  clear hw1
  rename_i K1 hK1
  refine Gt.regionA [Gt.Is (.bool true), Gt.Is (.bool true), Gt.Is (pv a0 T0 K0 E0 R0), Gt.Is (.bool (goodB a0 T0 K0 E0 R0)), Gt.Is (pv a0 T0 K0 E0 R0), Gt.Is (.bool (goodB a0 T0 K0 E0 R0)), Gt.Is (.bool true), Gt.Is (.bool true), Gt.Is (.bool true)] 11
    [⟨[], [], none⟩, ⟨[(0, 3)], [], none⟩, ⟨[(1, 4)], [1], some (4, true)⟩, ⟨[(1, 4), (2, 5)], [], some (4, true)⟩, ⟨[(1, 4)], [1], some (4, true)⟩, ⟨[(1, 4), (4, 7)], [], some (4, true)⟩, ⟨[(1, 4), (3, 6), (5, 8)], [], some (4, true)⟩, ⟨[(1, 4), (6, 9)], [], none⟩, ⟨[(7, 10)], [], none⟩]
    [(0, 3), (1, 4), (2, 5), (3, 6), (4, 7), (5, 8), (6, 9), (7, 10), (8, 2)] (by kernel_rfl) (by kernel_rfl) (by kernel_rfl) (by kernel_rfl) ?_ ?_ ?_
  · simp only [Gt.Monos]
    repeat' apply And.intro
    all_goals (first | exact trivial | exact Gt.Is.mono _ | exact OIs.mono _ _ _ | exact NIs.mono _ _ | exact FIs.mono | exact MIs.mono _ _ | exact TIs.mono _ _ | exact ZIs.mono | exact EIs.mono | exact LIs.mono _ | exact SIs.mono _ _ | exact GIs.mono _ _ _)
  · simp only [Gt.Obs]
    repeat' apply And.intro
    all_goals try exact trivial
    all_goals (
      intro a w5 hg
      have hg' : Below w1.heap.size w1 w5 := hg
      simp only [Gt.Pre, Gt.Kept, Gt.Guarded, Gt.tys, List.getD_cons_zero, List.getD_cons_succ, Gt.Is, Nat.zero_add, Nat.reduceAdd]
      intros
      try (refine ⟨fun _ => ?_, fun hne => absurd (by assumption) hne⟩))
    all_goals (first
      | exact Gt.ok_move rfl (by assumption)
      | exact Gt.ok_assign rfl (by assumption)
      | exact Gt.ok_pick rfl (by assumption) (by rw [if_pos rfl]; assumption)
      | (exact Gt.ok_call (f := 11) rfl #[] (by kernel_rfl) (by simp) ((answers_any _).mono fun e w6 h => ⟨_, h.1, h.2, rfl⟩))
      | (exact Gt.ok_load rfl (by assumption) (HPB.out.below hg' HPL.out).load rfl)
      | (exact Gt.ok_call (f := 12) rfl #[pv a0 T0 K0 E0 R0] (by kernel_rfl) (by simp [*]) ((dgood_any a0 T0 K0 E0 R0 _ w0).mono fun e w6 h => ⟨_, h.1, h.2, rfl⟩))
      | (exact Gt.ok_call (f := 13) rfl #[pv a0 T0 K0 E0 R0] (by kernel_rfl) (by simp [*]) ((rgood_any a0 T0 K0 E0 R0 _).mono fun e w6 h => ⟨_, h.1, h.2, rfl⟩))
      | (refine Gt.ok_run ?_ rfl
         simp only [execOp, *]
         go_simp
         done))
  · intro a w5 hg
    have hg' : Below w1.heap.size w1 w5 := hg
    simp only [Gt.Pre, Gt.tys, List.getD_cons_zero, List.getD_cons_succ, Gt.Is]
    intro h0 h1 h2 h3 h4 h5 h6 h7 h8
    show K1 _ _
    refine hK1 _ _ ?_
    simp only [Gt.puts, List.foldl_cons, List.foldl_nil, h0, h1, h2, h3, h4, h5, h6, h7, h8]
    simp only [Act.put, List.setIfInBounds_toArray, List.set_cons_zero, List.set_cons_succ]
    have HB5 := Lib.hid (HB1.out.trans (hg'.mono HB1.out.size))
    clear h0 h1 h2 h3 h4 h5 h6 h7 h8
    go_wp2
    go_ret
    exact ⟨rfl, HB5.out⟩

set_option maxRecDepth 100000 in
theorem lifted (os : Os) (started : os.Started) (H : Type) (enc : TypeId × Value → H) :
    ReturnsInHanded {} Try.checked os 3 .any (Rows.dealParamsSpec.pre6 enc Try.prog Try.f3 Rows.dealParamsRow.domain false) (Rows.dealParamsSpec.post enc Try.prog Try.f3 false true false false) := by
  refine returnsInHanded_of_change (C := Try.checked) own started (by kernel_rfl) Try.func3
    (ChangeSpec.witness6 (enc := enc) (C := Try.checked) false ⟨#[], #[.agg #[.int .i64 0, .int .i64 0, .int .i64 0, .int .i64 0, .int .i64 0]], []⟩ 8 (by kernel_rfl) (by kernel_rfl) (by kernel_rfl) (by kernel_rfl)) ?_
  intro W base args ds gs before hval0 hW _hcnd _
  have hval : ∀ (j : Nat) t v, Try.f3.params[j]? = some t → args[j]? = some v → Value.okWide Try.prog W .any base t v := hval0
  have hW' := hW
  obtain ⟨p, q, hA0, hV, rfl, _hfz, _hnd⟩ := hW
  have hA : DataW.TrodAll enc Try.prog W 0 (fun _ => true) true Try.f3.params.toList args.toList ds p := hA0
  rw [Try.params3] at hA hval
  obtain ⟨v0, vs0, d0, ds0, p0, q0, hargs, rfl, rfl, h0, r0⟩ := trodAll_cons hA
  obtain ⟨rfl, rfl, rfl⟩ := trodAll_nil r0
  obtain rfl : args = #[v0] := by cases args; simp_all
  obtain ⟨rfl, rfl⟩ := trodVars_none hV
  obtain ⟨a0, T0, K0, E0, R0, rfl, rfl, rfl, w0⟩ := open_five Try.underlying23 (by kernel_rfl) (by kernel_rfl) rfl rfl rfl rfl rfl Try.underlying3 (hval 0 23 v0 rfl rfl) h0
  clear hA0 hval0
  refine (walk a0 T0 K0 E0 R0 W w0).mono fun e W' ⟨he, bel⟩ => ?_
  subst he
  exact ⟨_, rfl, _, _, _, [], _, [], hW', trodAll_mk1 (shut_bool Try.underlying4 _), (trodAll_cons_mk (shut_five Try.underlying23 (by kernel_rfl) (by kernel_rfl) rfl rfl rfl rfl rfl Try.underlying3 w0) trodAll_mk0), rfl, bel.frame _, fun h => by cases h⟩

theorem over : Rows.dealParamsRow.holds Try.pinned (OpenSpec.ofChange Rows.dealParamsSpec) :=
  OpenClaim.holds_of_wide 3 Try.f3 rfl rfl rfl rfl rfl rfl rfl ⟨rfl, rfl, rfl, rfl, rfl⟩ rfl rfl rfl rfl rfl (by kernel_rfl) Try.func3 (by kernel_rfl)
    (of_decide_eq_true (by kernel_rfl)) (by unfold Func.isWrapper; first | (rw [if_pos (by decide +kernel)]; kernel_rfl) | (rw [if_neg (by decide +kernel)]; exact ⟨rfl, rfl⟩))
    (fun os started H enc _ => lifted os started H enc)

end Go.Proofs.Ytaknffdokkfmgaa.dealParams
namespace Go.Proofs.Ytaknffdokkfmgaa
/-- The statement. -/
theorem dealParams_holds : Rows.DealParamsSaid := dealParams.over
#print axioms dealParams_holds
end Go.Proofs.Ytaknffdokkfmgaa

