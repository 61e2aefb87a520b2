/- What the statements' own same (package shamrocklaw09) answers of the same columns. -/
import Derived.Test.YtnpjncbdmgdjnaaMat
import Derived.Test.YtnpjncbdmgdjnaaGty
import Derived.Test.YtnpjncbdmgdjnaaPby
namespace Go.Proofs.Ytnpjncbdmgdjnaa
open Go.RowKit Go.Shelf Gw Pol
set_option maxRecDepth 100000 in
set_option maxHeartbeats 2000000 in
theorem same_yes (A A' : Option Addr) (c c' R : Nat) (Q Q' : Nat → Option Addr) (C C' : Nat → Nat) (l l' : Nat → List Nat) (w : World) (h : MIn w w.heap.size A c R Q C l) (h' : MIn w w.heap.size A' c' R Q' C' l') (he : ∀ i, i < R → l i = l' i) (hR : R ≤ 140737488355328) :
    Calls Try.prog 12 #[.slice A R c, .slice A' R c'] w fun e w' => e = .returned (.bool true) ∧ Below w.heap.size w w' := by
  have hcap := h.cap
  have hcap' := h'.cap
  go_enter Try.func12, Try.ntmps12
  go_wp2
  go_loopw [5] (fun i wr => ∃ j : Nat, j ≤ R ∧ i = .int .i64 (j : Int) ∧ Below w.heap.size w wr) (fun i _ => R - (intOf i).toNat)
  case atStart => exact ⟨0, Nat.zero_le _, rfl, Below.refl _ _⟩
  case round =>
    obtain ⟨j, hj, rfl, hb⟩ := hrel
    have hs := hb.size
    by_cases hlt : j < R
    · obtain ⟨b, off, hA, hbl, hc, hI⟩ := (h.below hb).rd j hlt
      obtain ⟨b', off', hA', hbl', hc', hI'⟩ := (h'.below hb).rd j hlt
      subst hA hA'
      rw [← he j hlt] at hc' hI'
      obtain ⟨q, hq⟩ : ∃ q, q = Q j := ⟨_, rfl⟩
      obtain ⟨cq, hcq⟩ : ∃ q, q = C j := ⟨_, rfl⟩
      obtain ⟨q', hq'⟩ : ∃ q, q = Q' j := ⟨_, rfl⟩
      obtain ⟨cq', hcq'⟩ : ∃ q, q = C' j := ⟨_, rfl⟩
      obtain ⟨m, hm⟩ : ∃ m, m = (l j).length := ⟨_, rfl⟩
      obtain ⟨σ, hσ⟩ : ∃ σ, σ = str (l j) := ⟨_, rfl⟩
      rw [← hm, ← hq, ← hcq] at hc
      rw [← hm, ← hq', ← hcq'] at hc'
      rw [← hq, ← hcq] at hI
      rw [← hq', ← hcq'] at hI'
      have HM := Lib.hid hm
      have HSG := Lib.hid hσ
      have HI := Lib.hid (hI.more hs)
      have HI' := Lib.hid (hI'.more hs)
      have HC := Lib.hid hc
      have HC' := Lib.hid hc'
      have HBL := Lib.hid (show b < wr.heap.size by omega)
      have HBL' := Lib.hid (show b' < wr.heap.size by omega)
      have HB := Lib.hid hb
      clear hm hσ hI hI' hc hc' hb hq hcq hq' hcq' hbl hbl' h h' he
      go_wp2
      rename_i K hK
      refine Gt.regionA [Gt.Is (.slice (some ⟨b, off, none⟩) R c), Gt.Is (.int .i64 (j : Int)), Gt.Is (.pointer (some ⟨b, off + j, none⟩)), Gt.Is (.slice q m cq), Gt.Is (.string σ), Gt.Is (.slice (some ⟨b', off', none⟩) R c'), Gt.Is (.int .i64 (j : Int)), Gt.Is (.pointer (some ⟨b', off' + j, none⟩)), Gt.Is (.slice q' m cq'), Gt.Is (.string σ), Gt.Is (.bool false)] 28
        [⟨[], [0], none⟩, ⟨[], [5], none⟩, ⟨[(0, 17), (1, 18)], [], none⟩, ⟨[(2, 19)], [], none⟩, ⟨[(3, 20)], [], none⟩, ⟨[], [1], none⟩, ⟨[], [5], none⟩, ⟨[(5, 22), (6, 23)], [], none⟩, ⟨[(7, 24)], [], none⟩, ⟨[(8, 25)], [], none⟩, ⟨[(4, 21), (9, 26)], [], none⟩]
        [(0, 17), (1, 18), (2, 19), (3, 20), (4, 21), (5, 22), (6, 23), (7, 24), (8, 25), (9, 26), (10, 27)] (by kernel_rfl) (by kernel_rfl) (by kernel_rfl) (by kernel_rfl) ?_ ?_ ?_
      · simp only [Gt.Monos]
        repeat' apply And.intro
        all_goals (first | exact trivial | exact Gt.Is.mono _)
      · simp only [Gt.Obs]
        repeat' apply And.intro
        all_goals try exact trivial
        all_goals (
          intro a w5 hg
          have hg' : Below wr.heap.size wr w5 := hg
          simp only [Gt.Pre, Gt.Kept, Gt.Guarded, Gt.tys, List.getD_cons_zero, List.getD_cons_succ, Gt.Is, Nat.zero_add, Nat.reduceAdd]
          intros
          try (refine ⟨fun _ => ?_, fun hne => absurd (by assumption) hne⟩))
        all_goals (first
          | exact Gt.ok_move rfl (by assumption)
          | exact Gt.ok_assign rfl (by assumption)
          | exact Gt.ok_pick rfl (by assumption) (by rw [if_pos rfl]; assumption)
          | (have k5 := conv_sl (P := Try.prog) (HI.out.below hg').sl Try.underlying22 Try.underlying5 Try.underlying9 cq
             rw [← HM.out, ← HSG.out] at k5
             exact Gt.ok_convert rfl (by assumption) k5 rfl)
          | (have k5 := conv_sl (P := Try.prog) (HI'.out.below hg').sl Try.underlying22 Try.underlying5 Try.underlying9 cq'
             rw [← HM.out, ← HSG.out] at k5
             exact Gt.ok_convert rfl (by assumption) k5 rfl)
          | (refine Gt.ok_run ?_ rfl
             have k5 := (hg'.cell (p := ⟨b, off + j, none⟩) HBL.out).trans HC.out
             have k6 := (hg'.cell (p := ⟨b', off' + j, none⟩) HBL'.out).trans HC'.out
             simp only [execOp, *]
             go_simp
             done)
          | (refine Gt.ok_run ?_ rfl
             simp only [execOp, *]
             go_simp
             done))
      · intro a w5 hg
        have hg' : Below wr.heap.size wr w5 := hg
        simp only [Gt.Pre, Gt.tys, List.getD_cons_zero, List.getD_cons_succ, Gt.Is]
        intro h0 h1 h2 h3 h4 h5 h6 h7 h8 h9 h10
        show K _ _
        refine hK _ _ ?_
        simp only [Gt.puts, List.foldl_cons, List.foldl_nil, h0, h1, h2, h3, h4, h5, h6, h7, h8, h9, h10]
        simp only [Act.put, List.setIfInBounds_toArray, List.set_cons_zero, List.set_cons_succ]
        have HB5 := Lib.hid (HB.out.trans (hg'.mono HB.out.size))
        clear hg' hg h0 h1 h2 h3 h4 h5 h6 h7 h8 h9 h10 hK
        go_wp2
        go_roundw
        case rel => exact ⟨j + 1, by omega, by go_num, HB5.out⟩
        case measure => simp [intOf]; omega
    · obtain rfl : R = j := by omega
      have HB := Lib.hid hb
      clear hb
      go_wp2
      go_ret
      exact ⟨rfl, HB.out⟩
end Go.Proofs.Ytnpjncbdmgdjnaa
