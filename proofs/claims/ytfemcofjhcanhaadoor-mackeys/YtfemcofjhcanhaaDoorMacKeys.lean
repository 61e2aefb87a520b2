/- For every input MacKeys returns true, and every argument reads behind the call as it did before: no condition. -/
import Derived.Test.YtfemcofjhcanhaaDoorCards
import Derived.Test.YtfemcofjhcanhaaDoorTie
import Derived.ProofKit
import Derived.OpenShut
import Derived.Deep.DeepHandedRow
import Derived.Lib.LaidTab
import Derived.SizedLaws
import Derived.ChangeOld
import Derived.Carry
import Derived.SizedLaws
import Derived.ChangeOld
import Derived.Carry
import Derived.Test.YtfemcofjhcanhaaDoorLawb
import Derived.Test.YtfemcofjhcanhaaDoorMah
import Derived.Test.YtfemcofjhcanhaaDoorMau
import Derived.Test.YtfemcofjhcanhaaDoorMaz
import Derived.Test.YtfemcofjhcanhaaDoorGty
namespace Go.Proofs.YtfemcofjhcanhaaDoor.macKeys
open Go.ChangeShapes Go.WideShapes Go.ChangeAt Go.RowKit Go.Shelf Gw Pol

theorem own : ownKnob Tryd.prog.godebug = none := by kernel_rfl
theorem laidOut : laidOutB Tryd.prog = true := by kernel_rfl
/-- A row that holds l, 32 bytes. -/
def MarkIs (l : List Nat) : Value → World → Prop := fun v w => ∃ A c, v = .slice A 32 c ∧ l.length = 32 ∧ In w w.heap.size A c l
theorem MarkIs.mono (l : List Nat) : Gt.Mono (MarkIs l) := by
  rintro v w w' ⟨A, c, rfl, hl, h⟩ hg
  exact ⟨A, c, rfl, hl, (h.below hg).more hg.size⟩
set_option maxRecDepth 100000 in
set_option maxHeartbeats 1000000 in
theorem walk (A : Option Addr) (c : Nat) (l : List Nat) (A' : Option Addr) (c' : Nat) (m : List Nat) (w : World) (hI : In w w.heap.size A c l) (hs : c ≤ 140737488351232) (hI' : In w w.heap.size A' c' m) (hs' : c' ≤ 140737488351232) (hT : KT w) :
    Calls Tryd.prog 4 #[.slice A l.length c, .slice A' m.length c'] w fun e w' => e = .returned (.bool true) ∧ Below w.heap.size w w' := by
  have hcap := hI.cap
  have hcap' := hI'.cap
  obtain ⟨N, hN⟩ : ∃ N, N = l.length := ⟨_, rfl⟩
  obtain ⟨M, hM⟩ : ∃ M, M = m.length := ⟨_, rfl⟩
  have HN := Lib.hid hN
  have HM := Lib.hid hM
  have HI := Lib.hid hI
  have HI' := Lib.hid hI'
  have HK := Lib.hid hT
  obtain ⟨i0, hi0, hz0, hz1, hz2⟩ := info_parts byte_info
  obtain ⟨LG, hLG⟩ : ∃ L, L = l ++ List.replicate 65 0 := ⟨_, rfl⟩
  obtain ⟨NL, hNL⟩ : ∃ n, n = LG.length := ⟨_, rfl⟩
  have hNL' : NL = N + 65 := by rw [hNL, hLG, List.length_append, List.length_replicate, hN]
  have HLG := Lib.hid hLG
  have HNL := Lib.hid hNL
  have HL := Lib.hid (show l.length ≤ 140737488355328 by omega)
  have HL' := Lib.hid (show m.length ≤ 140737488355264 by omega)
  have HLL := Lib.hid (show LG.length ≤ 140737488355328 by omega)
  have HLR := Lib.hid (show LG.length ≤ 140737488351300 by omega)
  have HLO := Lib.hid (Sh.hm_long (k := LG) (by omega) m)
  have HSL := Lib.hid (hI.sl.alloc (Nat.le_refl _) (.cells #[] 5))
  have hnil := hI.none_
  have hNb : N ≤ 140737488351232 := by omega
  rw [← hN, ← hM]
  obtain ⟨σ, hσ⟩ : ∃ σ, σ = str (Sh.hm l m) := ⟨_, rfl⟩
  obtain ⟨τ, hτ⟩ : ∃ σ, σ = str (Sh.hm LG m) := ⟨_, rfl⟩
  have HSG := Lib.hid hσ
  have HTU := Lib.hid hτ
  have HK0 := HK
  have HI0 := HI
  have HI0' := HI'
  clear hN hM hI hI' hT hσ hτ hcap hcap' hs hs' hLG hNL hNL' HK HI HI'
  by_cases h63 : 63 < N
  · have hgt : (63 : Int) < (N : Int) := by omega
    go_enter Tryd.func4, Tryd.ntmps4
    go_wp2_with (first
      | (at_builtin; refine wpList_app rfl (.tmp 7) (.tmp 8) 22 rfl w.heap.size 5 i0 _ Tryd.underlying22 hi0 hz0 hz1 hz2 rfl (some ⟨w.heap.size, 0, none⟩) 0 0 [] rfl rfl (Own.lit0 w w.heap.size 5 (Nat.le_refl _)) w.heap.size A N c l rfl HN.out hnil HSL.out (by rw [← HN.out]; simp; omega) (by simp) ?_; intro A2 c2 w2 hown hgr; rw [List.nil_append] at hown; rw [List.nil_append, ← HN.out])
      | (at_builtin; refine wpList_appZ rfl (.tmp 9) (.const (.int .i64 65)) 22 3 .i64 rfl w.heap.size 5 i0 Tryd.underlying22 Tryd.underlying3 hi0 hz0 hz1 hz2 A2 N c2 l rfl HN.out hown 65 rfl (by omega) (by rw [← HN.out]; omega) (by have := hgr.size; rw [World.size_alloc] at this; omega) ?_; intro AL cL w3 hown3 hgr3; rw [← HLG.out] at hown3; rw [← HLG.out, ← HNL.out]
         have hb2 := below_lit' (Below.refl w.heap.size w) (Nat.le_refl _) hgr
         have hb3 := below_app0 hb2 hb2.size hown hgr3
         have hs3 := hb3.size
         have HB3 := Lib.hid hb3
         have HIL := Lib.hid hown3.inn
         have HK := Lib.hid (HK0.out.to hb3)
         have HI := Lib.hid ((HI0.out.below hb3).more hs3)
         have HI' := Lib.hid ((HI0'.out.below hb3).more hs3)
         have HRS := Lib.hid (show ∀ w5, Below w3.heap.size w3 w5 → Calls Tryd.prog 10 #[.slice AL NL cL] w5 fun e w' => ∃ A2 c2, e = .returned (.slice A2 32 c2) ∧ Gw.Own w' w5.heap.size 5 A2 c2 (Sh.sum LG) ∧ Below w5.heap.size w5 w' from
           fun w5 hg => by rw [HNL.out]; exact rsum_any AL cL LG w5 ((HIL.out.below hg).more hg.size) HLR.out)
         clear hown hgr hgr3 hown3 HSL hb2 hb3)
      | fail)
    rename_i K hK
    refine Gt.regionA [Gt.Is (.bool true), Gt.Is (.bool true), Gt.Is (.slice AL NL cL), Gt.Is (.slice A' M c'), MarkIs (Sh.hm LG m), Gt.Is (.string τ), Gt.Is (.slice AL NL cL), MarkIs (Sh.sum LG), Gt.Is (.slice A' M c'), MarkIs (Sh.hm LG m), Gt.Is (.string τ), Gt.Is (.bool true), Gt.Is (.bool true), Gt.Is (.bool true)] 56
      [⟨[], [], none⟩, ⟨[(0, 14)], [], none⟩, ⟨[(1, 15)], [5], some (15, true)⟩, ⟨[(1, 15)], [1], some (15, true)⟩, ⟨[(1, 15), (2, 16), (3, 17)], [], some (15, true)⟩, ⟨[(1, 15), (4, 18)], [], some (15, true)⟩, ⟨[(1, 15)], [5], some (15, true)⟩, ⟨[(1, 15), (6, 20)], [], some (15, true)⟩, ⟨[(1, 15)], [1], some (15, true)⟩, ⟨[(1, 15), (7, 21), (8, 22)], [], some (15, true)⟩, ⟨[(1, 15), (9, 23)], [], some (15, true)⟩, ⟨[(1, 15), (5, 19), (10, 24)], [], some (15, true)⟩, ⟨[(1, 15), (11, 25)], [], none⟩, ⟨[(12, 26)], [], none⟩]
      [(0, 14), (1, 15), (2, 16), (3, 17), (4, 18), (5, 19), (6, 20), (7, 21), (8, 22), (9, 23), (10, 24), (11, 25), (12, 26), (13, 4)] (by kernel_rfl) (by kernel_rfl) (by kernel_rfl) (by kernel_rfl) ?_ ?_ ?_
    · simp only [Gt.Monos]
      repeat' apply And.intro
      all_goals (first | exact trivial | exact Gt.Is.mono _ | exact MarkIs.mono _)
    · simp only [Gt.Obs]
      repeat' apply And.intro
      all_goals try exact trivial
      all_goals (
        intro a w5 hg
        have hg' : Below w3.heap.size w3 w5 := hg
        simp only [Gt.Pre, Gt.Kept, Gt.Guarded, Gt.tys, List.getD_cons_zero, List.getD_cons_succ, Gt.Is, Nat.zero_add, Nat.reduceAdd]
        intros
        try (refine ⟨fun _ => ?_, fun hne => absurd (by assumption) hne⟩))
      all_goals (first
        | exact Gt.ok_move rfl (by assumption)
        | exact Gt.ok_assign rfl (by assumption)
        | exact Gt.ok_pick rfl (by assumption) (by rw [if_pos rfl]; assumption)
        | (exact Gt.ok_call (f := 7) rfl #[] (by kernel_rfl) (by simp) ((answers_any _ (HK.out.to hg')).mono fun e w6 h => ⟨_, h.1, h.2, rfl⟩))
        | (refine Gt.ok_call (f := 8) rfl #[.slice AL NL cL, .slice A' M c'] (by kernel_rfl) ?_ ((mac_any AL cL NL LG A' c' M m _ HNL.out HM.out ((HIL.out.below hg').more hg'.size) ((HI'.out.below hg').more hg'.size) HLL.out HL'.out (HK.out.to hg')).mono ?_)
           · simp [*]
             done
           rintro e w6 ⟨A6, c6, rfl, hown6, hB6⟩
           exact ⟨_, rfl, hB6, A6, c6, rfl, Sh.hm_len _ _, hown6.inn⟩)
        | (rename_i h6 _ _
           obtain ⟨A6, c6, e6, hl6, hI6⟩ := h6
           refine Gt.ok_call (f := 8) rfl #[.slice A6 32 c6, .slice A' M c'] (by kernel_rfl) ?_ ((mac_any A6 c6 32 (Sh.sum LG) A' c' M m _ hl6.symm HM.out hI6 ((HI'.out.below hg').more hg'.size) (by rw [hl6]; omega) HL'.out (HK.out.to hg')).mono ?_)
           · simp [*]
             done
           rintro e w6 ⟨A7, c7, rfl, hown7, hB7⟩
           rw [HLO.out] at hown7
           exact ⟨_, rfl, hB7, A7, c7, rfl, Sh.hm_len _ _, hown7.inn⟩)
        | (refine Gt.ok_call (f := 10) rfl #[.slice AL NL cL] (by kernel_rfl) ?_ ((HRS.out w5 hg').mono ?_)
           · simp [*]
             done
           rintro e w6 ⟨A6, c6, rfl, hown6, hB6⟩
           exact ⟨_, rfl, hB6, A6, c6, rfl, Sh.sum_len _, hown6.inn⟩)
        | (rename_i h6 _
           obtain ⟨A6, c6, e6, hl6, hI6⟩ := h6
           have k5 := conv_sl (P := Tryd.prog) hI6.sl Tryd.underlying22 Tryd.underlying5 Tryd.underlying9 c6
           rw [hl6] at k5
           rw [← HTU.out] at k5
           exact Gt.ok_convert rfl e6 k5 rfl)
        | (refine Gt.ok_run ?_ rfl
           simp only [execOp, *]
           go_simp
           done))
    · intro a w5 hg
      have hg' : Below w3.heap.size w3 w5 := hg
      simp only [Gt.Pre, Gt.tys, List.getD_cons_zero, List.getD_cons_succ, Gt.Is]
      intro h0 h1 h2 h3 h4 h5 h6 h7 h8 h9 h10 h11 h12 h13
      obtain ⟨A6, c6, e4, _⟩ := h4
      obtain ⟨A7, c7, e7, _⟩ := h7
      obtain ⟨A8, c8, e9, _⟩ := h9
      show K _ _
      refine hK _ _ ?_
      simp only [Gt.puts, List.foldl_cons, List.foldl_nil, h0, h1, h2, h3, e4, h5, h6, e7, h8, e9, h10, h11, h12, h13]
      simp only [Act.put, List.setIfInBounds_toArray, List.set_cons_zero, List.set_cons_succ]
      go_wp2
      go_ret
      exact ⟨rfl, HB3.out.trans (hg'.mono HB3.out.size)⟩
  · have hgt : ¬ (63 : Int) < (N : Int) := by omega
    have HFI := Lib.hid (Sh.hm_fill (k := l) (by rw [← HN.out]; omega) m)
    obtain ⟨FL, hFL⟩ : ∃ L, L = l ++ [0] := ⟨_, rfl⟩
    obtain ⟨NF, hNF⟩ : ∃ n, n = FL.length := ⟨_, rfl⟩
    have hNF' : NF = N + 1 := by rw [hNF, hFL, List.length_append, HN.out]; rfl
    rw [← hFL] at HFI
    have HFL := Lib.hid hFL
    have HNF := Lib.hid hNF
    have HLF := Lib.hid (show FL.length ≤ 140737488355328 by omega)
    clear hFL hNF hNF'
    go_enter Tryd.func4, Tryd.ntmps4
    go_wp2_with (first
      | (at_builtin; refine wpList_app rfl (.tmp 7) (.tmp 8) 22 rfl w.heap.size 5 i0 _ Tryd.underlying22 hi0 hz0 hz1 hz2 rfl (some ⟨w.heap.size, 0, none⟩) 0 0 [] rfl rfl (Own.lit0 w w.heap.size 5 (Nat.le_refl _)) w.heap.size A N c l rfl HN.out hnil HSL.out (by rw [← HN.out]; simp; omega) (by simp) ?_; intro A2 c2 w2 hown hgr; rw [List.nil_append] at hown; rw [List.nil_append, ← HN.out])
      | (at_builtin; refine wpList_appZ rfl (.tmp 9) (.const (.int .i64 65)) 22 3 .i64 rfl w.heap.size 5 i0 Tryd.underlying22 Tryd.underlying3 hi0 hz0 hz1 hz2 A2 N c2 l rfl HN.out hown 65 rfl (by omega) (by rw [← HN.out]; omega) (by have := hgr.size; rw [World.size_alloc] at this; omega) ?_; intro AL cL w3 hown3 hgr3; rw [← HLG.out] at hown3; rw [← HLG.out, ← HNL.out]
         have hb2 := below_lit' (Below.refl w.heap.size w) (Nat.le_refl _) hgr
         have hb3 := below_app0 hb2 hb2.size hown hgr3
         have hs3 := hb3.size
         have HB3 := Lib.hid hb3
         have HIL := Lib.hid hown3.inn
         have HK := Lib.hid (HK0.out.to hb3)
         have HI := Lib.hid ((HI0.out.below hb3).more hs3)
         have HI' := Lib.hid ((HI0'.out.below hb3).more hs3)
         have HRS := Lib.hid (show ∀ w5, Below w3.heap.size w3 w5 → Calls Tryd.prog 10 #[.slice AL NL cL] w5 fun e w' => ∃ A2 c2, e = .returned (.slice A2 32 c2) ∧ Gw.Own w' w5.heap.size 5 A2 c2 (Sh.sum LG) ∧ Below w5.heap.size w5 w' from
           fun w5 hg => by rw [HNL.out]; exact rsum_any AL cL LG w5 ((HIL.out.below hg).more hg.size) HLR.out)
         clear hown hgr hgr3 hown3 HSL hb2 hb3
         have HSL := Lib.hid (HI.out.sl.alloc (Nat.le_refl _) (.cells #[] 5)))
      | (at_builtin; refine wpList_app rfl (.tmp 27) (.tmp 28) 22 rfl w3.heap.size 5 i0 _ Tryd.underlying22 hi0 hz0 hz1 hz2 rfl (some ⟨w3.heap.size, 0, none⟩) 0 0 [] rfl rfl (Own.lit0 w3 w3.heap.size 5 (Nat.le_refl _)) w3.heap.size A N c l rfl HN.out hnil HSL.out (by rw [← HN.out]; simp; omega) (by simp) ?_; intro A4 c4 w4 hown4 hgr4; rw [List.nil_append] at hown4; rw [List.nil_append, ← HN.out])
      | (at_builtin; refine wpList_app rfl (.tmp 29) (.tmp 30) 22 rfl w3.heap.size 5 i0 _ Tryd.underlying22 hi0 hz0 hz1 hz2 rfl A4 N c4 l rfl HN.out (hown4.alloc _) (w4.heap.size + 1) (some ⟨w4.heap.size, 0, none⟩) 1 1 [0] rfl rfl (fun h => by cases h) (Sl.one w4 5 0 (by omega)) (by rw [← HN.out]; simp; omega) (by rw [World.size_alloc]; have := hgr4.size; rw [World.size_alloc] at this; omega) ?_; intro AF cF w7 hownF hgrF; rw [← HFL.out] at hownF; rw [← HFL.out, ← HNF.out])
      | fail)
    have hb4 := below_lit' (Below.refl w3.heap.size w3) (Nat.le_refl _) hgr4
    have hb7 := below_app hb4 hb4.size hown4 hgrF
    have hs7 := hb7.size
    have HB5 := Lib.hid (HB3.out.trans (hb7.mono hs3))
    have HIF := Lib.hid hownF.inn
    have HRS0 := HRS
    have HK1 := HK
    have HI1 := HI
    have HI1' := HI'
    have HIL1 := HIL
    clear HRS HK HI HI' HIL
    have HK := Lib.hid (HK1.out.to hb7)
    have HI := Lib.hid ((HI1.out.below hb7).more hs7)
    have HI' := Lib.hid ((HI1'.out.below hb7).more hs7)
    have HIL := Lib.hid ((HIL1.out.below hb7).more hs7)
    have HRS := Lib.hid (show ∀ w5, Below w7.heap.size w7 w5 → Calls Tryd.prog 10 #[.slice AL NL cL] w5 fun e w' => ∃ A2 c2, e = .returned (.slice A2 32 c2) ∧ Gw.Own w' w5.heap.size 5 A2 c2 (Sh.sum LG) ∧ Below w5.heap.size w5 w' from
      fun w5 hg => by rw [HNL.out]; exact rsum_any AL cL LG w5 ((HIL.out.below hg).more hg.size) HLR.out)
    clear hown4 hgr4 hgrF hownF HSL hb4 hb7 HRS0 HK1 HI1 HI1' HIL1
    rename_i K hK
    refine Gt.regionA [Gt.Is (.bool true), Gt.Is (.bool true), Gt.Is (.slice A N c), Gt.Is (.slice A' M c'), MarkIs (Sh.hm l m), Gt.Is (.string σ), Gt.Is (.slice AF NF cF), Gt.Is (.slice A' M c'), MarkIs (Sh.hm FL m), Gt.Is (.string σ), Gt.Is (.bool true), Gt.Is (.bool true), Gt.Is (.bool true), Gt.Is (.slice AL NL cL), Gt.Is (.slice A' M c'), MarkIs (Sh.hm LG m), Gt.Is (.string τ), Gt.Is (.slice AL NL cL), MarkIs (Sh.sum LG), Gt.Is (.slice A' M c'), MarkIs (Sh.hm LG m), Gt.Is (.string τ), Gt.Is (.bool true), Gt.Is (.bool true), Gt.Is (.bool true)] 56
      [⟨[], [], none⟩, ⟨[(0, 32)], [], none⟩, ⟨[(1, 33)], [0], some (33, true)⟩, ⟨[(1, 33)], [1], some (33, true)⟩, ⟨[(1, 33), (2, 34), (3, 35)], [], some (33, true)⟩, ⟨[(1, 33), (4, 36)], [], some (33, true)⟩, ⟨[(1, 33)], [6], some (33, true)⟩, ⟨[(1, 33)], [1], some (33, true)⟩, ⟨[(1, 33), (6, 38), (7, 39)], [], some (33, true)⟩, ⟨[(1, 33), (8, 40)], [], some (33, true)⟩, ⟨[(1, 33), (5, 37), (9, 41)], [], some (33, true)⟩, ⟨[(1, 33), (10, 42)], [], none⟩, ⟨[(11, 43)], [], none⟩, ⟨[(12, 44)], [5], some (44, true)⟩, ⟨[(12, 44)], [1], some (44, true)⟩, ⟨[(12, 44), (13, 45), (14, 46)], [], some (44, true)⟩, ⟨[(12, 44), (15, 47)], [], some (44, true)⟩, ⟨[(12, 44)], [5], some (44, true)⟩, ⟨[(12, 44), (17, 49)], [], some (44, true)⟩, ⟨[(12, 44)], [1], some (44, true)⟩, ⟨[(12, 44), (18, 50), (19, 51)], [], some (44, true)⟩, ⟨[(12, 44), (20, 52)], [], some (44, true)⟩, ⟨[(12, 44), (16, 48), (21, 53)], [], some (44, true)⟩, ⟨[(12, 44), (22, 54)], [], none⟩, ⟨[(23, 55)], [], none⟩]
      [(0, 32), (1, 33), (2, 34), (3, 35), (4, 36), (5, 37), (6, 38), (7, 39), (8, 40), (9, 41), (10, 42), (11, 43), (12, 44), (13, 45), (14, 46), (15, 47), (16, 48), (17, 49), (18, 50), (19, 51), (20, 52), (21, 53), (22, 54), (23, 55), (24, 4)] (by kernel_rfl) (by kernel_rfl) (by kernel_rfl) (by kernel_rfl) ?_ ?_ ?_
    · simp only [Gt.Monos]
      repeat' apply And.intro
      all_goals (first | exact trivial | exact Gt.Is.mono _ | exact MarkIs.mono _)
    · simp only [Gt.Obs]
      repeat' apply And.intro
      all_goals try exact trivial
      all_goals (
        intro a w5 hg
        have hg' : Below w7.heap.size w7 w5 := hg
        simp only [Gt.Pre, Gt.Kept, Gt.Guarded, Gt.tys, List.getD_cons_zero, List.getD_cons_succ, Gt.Is, Nat.zero_add, Nat.reduceAdd]
        intros
        try (refine ⟨fun _ => ?_, fun hne => absurd (by assumption) hne⟩))
      all_goals (first
        | exact Gt.ok_move rfl (by assumption)
        | exact Gt.ok_assign rfl (by assumption)
        | exact Gt.ok_pick rfl (by assumption) (by rw [if_pos rfl]; assumption)
        | (exact Gt.ok_call (f := 7) rfl #[] (by kernel_rfl) (by simp) ((answers_any _ (HK.out.to hg')).mono fun e w6 h => ⟨_, h.1, h.2, rfl⟩))
        | (refine Gt.ok_call (f := 8) rfl #[.slice A N c, .slice A' M c'] (by kernel_rfl) ?_ ((mac_any A c N l A' c' M m _ HN.out HM.out ((HI.out.below hg').more hg'.size) ((HI'.out.below hg').more hg'.size) HL.out HL'.out (HK.out.to hg')).mono ?_)
           · simp [*]
             done
           rintro e w6 ⟨A6, c6, rfl, hown6, hB6⟩
           exact ⟨_, rfl, hB6, A6, c6, rfl, Sh.hm_len _ _, hown6.inn⟩)
        | (refine Gt.ok_call (f := 8) rfl #[.slice AF NF cF, .slice A' M c'] (by kernel_rfl) ?_ ((mac_any AF cF NF FL A' c' M m _ HNF.out HM.out ((HIF.out.below hg').more hg'.size) ((HI'.out.below hg').more hg'.size) HLF.out HL'.out (HK.out.to hg')).mono ?_)
           · simp [*]
             done
           rintro e w6 ⟨A6, c6, rfl, hown6, hB6⟩
           exact ⟨_, rfl, hB6, A6, c6, rfl, Sh.hm_len _ _, hown6.inn⟩)
        | (refine Gt.ok_call (f := 8) rfl #[.slice AL NL cL, .slice A' M c'] (by kernel_rfl) ?_ ((mac_any AL cL NL LG A' c' M m _ HNL.out HM.out ((HIL.out.below hg').more hg'.size) ((HI'.out.below hg').more hg'.size) HLL.out HL'.out (HK.out.to hg')).mono ?_)
           · simp [*]
             done
           rintro e w6 ⟨A6, c6, rfl, hown6, hB6⟩
           exact ⟨_, rfl, hB6, A6, c6, rfl, Sh.hm_len _ _, hown6.inn⟩)
        | (rename_i h6 _ _
           obtain ⟨A6, c6, e6, hl6, hI6⟩ := h6
           refine Gt.ok_call (f := 8) rfl #[.slice A6 32 c6, .slice A' M c'] (by kernel_rfl) ?_ ((mac_any A6 c6 32 (Sh.sum LG) A' c' M m _ hl6.symm HM.out hI6 ((HI'.out.below hg').more hg'.size) (by rw [hl6]; omega) HL'.out (HK.out.to hg')).mono ?_)
           · simp [*]
             done
           rintro e w6 ⟨A7, c7, rfl, hown7, hB7⟩
           rw [HLO.out] at hown7
           exact ⟨_, rfl, hB7, A7, c7, rfl, Sh.hm_len _ _, hown7.inn⟩)
        | (refine Gt.ok_call (f := 10) rfl #[.slice AL NL cL] (by kernel_rfl) ?_ ((HRS.out w5 hg').mono ?_)
           · simp [*]
             done
           rintro e w6 ⟨A6, c6, rfl, hown6, hB6⟩
           exact ⟨_, rfl, hB6, A6, c6, rfl, Sh.sum_len _, hown6.inn⟩)
        | (rename_i h6 _
           obtain ⟨A6, c6, e6, hl6, hI6⟩ := h6
           have k5 := conv_sl (P := Tryd.prog) hI6.sl Tryd.underlying22 Tryd.underlying5 Tryd.underlying9 c6
           rw [hl6] at k5
           first | rw [← HTU.out] at k5 | rw [← HSG.out] at k5 | rw [HFI.out, ← HSG.out] at k5
           exact Gt.ok_convert rfl e6 k5 rfl)
        | (refine Gt.ok_run ?_ rfl
           simp only [execOp, *]
           go_simp
           done))
    · intro a w5 hg
      have hg' : Below w7.heap.size w7 w5 := hg
      simp only [Gt.Pre, Gt.tys, List.getD_cons_zero, List.getD_cons_succ, Gt.Is]
      intro h0 h1 h2 h3 h4 h5 h6 h7 h8 h9 h10 h11 h12 h13 h14 h15 h16 h17 h18 h19 h20 h21 h22 h23 h24
      obtain ⟨A6, c6, e4, _⟩ := h4
      obtain ⟨A7, c7, e8, _⟩ := h8
      obtain ⟨A8, c8, e15, _⟩ := h15
      obtain ⟨A9, c9, e18, _⟩ := h18
      obtain ⟨A10, c10, e20, _⟩ := h20
      show K _ _
      refine hK _ _ ?_
      simp only [Gt.puts, List.foldl_cons, List.foldl_nil, h0, h1, h2, h3, e4, h5, h6, h7, e8, h9, h10, h11, h12, h13, h14, e15, h16, h17, e18, h19, e20, h21, h22, h23, h24]
      simp only [Act.put, List.setIfInBounds_toArray, List.set_cons_zero, List.set_cons_succ]
      go_wp2
      go_ret
      exact ⟨rfl, HB5.out.trans (hg'.mono HB5.out.size)⟩

theorem gTab : Tryd.prog.globalNamed "shamrock/sha.roundWords" = some 0 := by kernel_rfl
theorem gTabType : (Tryd.prog.globals[0]?).map (·.type) = some 42 := by kernel_rfl
theorem cellsT : Tryd.prog.cellsOf 42 = 64 := by kernel_rfl
theorem cellsE : Tryd.prog.cellsOf 35 = 1 := by kernel_rfl
theorem table {W : World} (h : laidMetH Tryd.prog Rows.macKeysRow.laid W) : Lib.TabIs Tryd.prog W "shamrock/sha.roundWords" .u32 [1116352408, 1899447441, 3049323471, 3921009573, 961987163, 1508970993, 2453635748, 2870763221, 3624381080, 310598401, 607225278, 1426881987, 1925078388, 2162078206, 2614888103, 3248222580, 3835390401, 4022224774, 264347078, 604807628, 770255983, 1249150122, 1555081692, 1996064986, 2554220882, 2821834349, 2952996808, 3210313671, 3336571891, 3584528711, 113926993, 338241895, 666307205, 773529912, 1294757372, 1396182291, 1695183700, 1986661051, 2177026350, 2456956037, 2730485921, 2820302411, 3259730800, 3345764771, 3516065817, 3600352804, 4094571909, 275423344, 430227734, 506948616, 659060556, 883997877, 958139571, 1322822218, 1537002063, 1747873779, 1955562222, 2024104815, 2227730452, 2361852424, 2428436474, 2756734187, 3204031479, 3329325298] :=
  Lib.tabIs_of_head (rest := []) gTab gTabType Tryd.underlying42 Tryd.underlying35 cellsE cellsT h
/-- The table's cells, as the walks ask them. -/
theorem tabK {W : World} (h : laidMetH Tryd.prog Rows.macKeysRow.laid W) : KT W := fun t ht => by
  rw [(table h).cell gTab t ht]
  have hall : ∀ t, t < 64 → ([1116352408, 1899447441, 3049323471, 3921009573, 961987163, 1508970993, 2453635748, 2870763221, 3624381080, 310598401, 607225278, 1426881987, 1925078388, 2162078206, 2614888103, 3248222580, 3835390401, 4022224774, 264347078, 604807628, 770255983, 1249150122, 1555081692, 1996064986, 2554220882, 2821834349, 2952996808, 3210313671, 3336571891, 3584528711, 113926993, 338241895, 666307205, 773529912, 1294757372, 1396182291, 1695183700, 1986661051, 2177026350, 2456956037, 2730485921, 2820302411, 3259730800, 3345764771, 3516065817, 3600352804, 4094571909, 275423344, 430227734, 506948616, 659060556, 883997877, 958139571, 1322822218, 1537002063, 1747873779, 1955562222, 2024104815, 2227730452, 2361852424, 2428436474, 2756734187, 3204031479, 3329325298] : List Int).getD t 0 = (Pol.co Sh.kk t : Int) := by decide +kernel
  rw [hall t ht]
set_option maxRecDepth 100000 in
theorem contract (H : Type) (enc : TypeId × Value → H) (W : World) (base : Nat) (args : Array Value) (ds gs : List (DataW H)) (before : List MemPlace)
    (hval0 : ∀ (j : Nat) t v, Tryd.f4.params[j]? = some t → args[j]? = some v → Value.okWide Tryd.prog W .any base t v)
    (hW : DataW.Whole enc Tryd.prog Tryd.f4.params.toList Rows.macKeysSpec.vars false W args.toList ds gs before)
    (hsz0 : (DataW.weightsEach Tryd.prog (Tryd.f4.params.toList ++ Rows.macKeysSpec.plain.varTypes Tryd.prog) (ds ++ gs)).all (· ≤ reachBytes) = true) (hL : laidMetH Tryd.prog Rows.macKeysRow.laid W) :
    Calls Tryd.prog 4 args W fun e W' => ∃ v, e = .returned v ∧ Rows.macKeysSpec.post enc Tryd.prog Tryd.f4 false true false false W args v W' := by
  have hval : ∀ (j : Nat) t v, Tryd.f4.params[j]? = some t → args[j]? = some v → Value.okWide Tryd.prog W .any base t v := hval0
  have hW' := hW
  obtain ⟨p, q, hA0, hV, rfl, _hfz, _hnd⟩ := hW
  have hA : DataW.TrodAll enc Tryd.prog W 0 (fun _ => true) true Tryd.f4.params.toList args.toList ds p := hA0
  have hsz : (DataW.weightsEach Tryd.prog (Tryd.f4.params.toList ++ Rows.macKeysSpec.plain.varTypes Tryd.prog) (ds ++ gs)).all (· ≤ reachBytes) = true := hsz0
  rw [Tryd.params4] at hA hval hsz
  obtain ⟨v0, vs0, d0, ds0, p0, q0, hargs, rfl, rfl, h0, r0⟩ := trodAll_cons hA
  obtain ⟨v1, vs1, d1, ds1, p1, q1, rfl, rfl, rfl, h1, r1⟩ := trodAll_cons r0
  obtain ⟨rfl, rfl, rfl⟩ := trodAll_nil r1
  obtain rfl : args = #[v0, v1] := by cases args; simp_all
  obtain ⟨rfl, rfl⟩ := trodVars_none hV
  have k0 := h0
  have lt0 : ∀ x ∈ p0, x.block < W.heap.size := by obtain ⟨m, hm⟩ := k0; exact DataW.trod_lt m _ _ _ hm
  obtain ⟨A0, c0, l0, rfl, w0, sz0⟩ := open_bytes Tryd.underlying22 Tryd.underlying5 (by kernel_rfl) (hval 0 22 v0 rfl rfl) h0
  have s0 := sized_bytes hsz (j := 0) (t := 22) (e := 5) rfl rfl Tryd.underlying22 (by kernel_rfl) sz0
  have k1 := h1
  have lt1 : ∀ x ∈ p1, x.block < W.heap.size := by obtain ⟨m, hm⟩ := k1; exact DataW.trod_lt m _ _ _ hm
  obtain ⟨A1, c1, l1, rfl, w1, sz1⟩ := open_bytes Tryd.underlying22 Tryd.underlying5 (by kernel_rfl) (hval 1 22 v1 rfl rfl) h1
  have s1 := sized_bytes hsz (j := 1) (t := 22) (e := 5) rfl rfl Tryd.underlying22 (by kernel_rfl) sz1
  have hT := tabK hL
  clear hA0 hval0 hsz0 hsz hL
  refine (walk A0 c0 l0 A1 c1 l1 W w0 s0 w1 s1 hT).mono fun e W' ⟨he, bel⟩ => ?_
  subst he
  exact ⟨_, rfl, _, _, _, [], _, [], hW', trodAll_mk1 (shut_bool Tryd.underlying4 _), (trodAll_cons_mk (Below.trod laidOut (by kernel_rfl) (of_decide_eq_true (by kernel_rfl)) k0 bel lt0) (trodAll_cons_mk (Below.trod laidOut (by kernel_rfl) (of_decide_eq_true (by kernel_rfl)) k1 bel lt1) trodAll_mk0)), rfl, bel.frame _, fun h => by cases h⟩
noncomputable def laidWorld (os : Os) : World :=
  { World.holding Tryd.prog os ⟨#[], #[], []⟩ with heap := (World.holding Tryd.prog os ⟨#[], #[], []⟩).heap.modify 0 fun
      | .cells _ t frozen => .cells #[.int .u32 1116352408, .int .u32 1899447441, .int .u32 3049323471, .int .u32 3921009573, .int .u32 961987163, .int .u32 1508970993, .int .u32 2453635748, .int .u32 2870763221, .int .u32 3624381080, .int .u32 310598401, .int .u32 607225278, .int .u32 1426881987, .int .u32 1925078388, .int .u32 2162078206, .int .u32 2614888103, .int .u32 3248222580, .int .u32 3835390401, .int .u32 4022224774, .int .u32 264347078, .int .u32 604807628, .int .u32 770255983, .int .u32 1249150122, .int .u32 1555081692, .int .u32 1996064986, .int .u32 2554220882, .int .u32 2821834349, .int .u32 2952996808, .int .u32 3210313671, .int .u32 3336571891, .int .u32 3584528711, .int .u32 113926993, .int .u32 338241895, .int .u32 666307205, .int .u32 773529912, .int .u32 1294757372, .int .u32 1396182291, .int .u32 1695183700, .int .u32 1986661051, .int .u32 2177026350, .int .u32 2456956037, .int .u32 2730485921, .int .u32 2820302411, .int .u32 3259730800, .int .u32 3345764771, .int .u32 3516065817, .int .u32 3600352804, .int .u32 4094571909, .int .u32 275423344, .int .u32 430227734, .int .u32 506948616, .int .u32 659060556, .int .u32 883997877, .int .u32 958139571, .int .u32 1322822218, .int .u32 1537002063, .int .u32 1747873779, .int .u32 1955562222, .int .u32 2024104815, .int .u32 2227730452, .int .u32 2361852424, .int .u32 2428436474, .int .u32 2756734187, .int .u32 3204031479, .int .u32 3329325298] t frozen
      | o => o }
set_option maxRecDepth 100000 in
theorem laid_met (os : Os) : laidMet Tryd.prog Rows.macKeysRow.laid ((laidWorld os).forCall (fun _ _ => 0) ⟨#[], #[.slice none 0 0, .slice none 0 0], []⟩).memory :=
  laidMet_of_run' 8 (by kernel_rfl) (by kernel_rfl)
theorem reads (os : Os) {H : Type} (enc : TypeId × Value → H) : ∃ places, DataW.whole enc Tryd.prog ((laidWorld os).forCall (fun _ _ => 0) ⟨#[], #[.slice none 0 0, .slice none 0 0], []⟩).memory Tryd.f4.params.toList Rows.macKeysSpec.vars false (#[.slice none 0 0, .slice none 0 0] : Array Value).toList 8 = some ([.nil, .nil], [], places) :=
  ⟨[], by kernel_rfl⟩
set_option maxRecDepth 100000 in
theorem lifted (os : Os) (started : os.Started) (H : Type) (enc : TypeId × Value → H) (F : Stop.Interp) :
    ReturnsInHanded {} Tryd.checked os 4 .any ((OpenSpec.ofChange Rows.macKeysSpec).preRow enc Tryd.prog Tryd.f4 Rows.macKeysRow.domain false Rows.macKeysRow.laid) (((OpenSpec.ofChange Rows.macKeysSpec).at F).post enc Tryd.prog Tryd.f4 false true false false) := by
  obtain ⟨places, hx⟩ := reads os enc
  refine returnsInHanded_of_row (C := Tryd.checked) (s := OpenSpec.ofChange Rows.macKeysSpec) own started (by kernel_rfl) Tryd.func4
    (witness_row_at (enc := enc) (C := Tryd.checked) false (laidWorld os) #[.slice none 0 0, .slice none 0 0] rfl (by kernel_rfl) (by kernel_rfl) (by kernel_rfl)
      (OpenSpec.preRow_of_cond 8 hx (by kernel_rfl) (fun k hk => by cases hk) (by kernel_rfl) (laid_met os))) ?_
  intro W base args ds gs before hval hW _ _ hsz hL _ _
  exact contract H enc W base args ds gs before hval hW hsz hL
theorem said : Rows.MacKeysSaid :=
  OpenClaim.holds_of_cond 4 Tryd.f4 rfl rfl rfl rfl rfl rfl rfl ⟨rfl, rfl, rfl, rfl, rfl⟩ rfl rfl rfl rfl rfl (by kernel_rfl) Tryd.func4 (by kernel_rfl)
    (of_decide_eq_true (by kernel_rfl)) (by unfold Func.isWrapper; first | (rw [if_pos (by decide +kernel)]; kernel_rfl) | (rw [if_neg (by decide +kernel)]; exact ⟨rfl, rfl⟩))
    (fun os started H enc _ F => by rw [OpenClaim.pre_eq_preRow]; exact lifted os started H enc F)
theorem plain (f : FuncId) (fn : Func) (hf : Tryd.pinned.checked.prog.funcNamed "shamrock/shamrocklaw07.MacKeys" = some f) (hfn : Tryd.pinned.checked.prog.funcs[f]? = some fn) :
    false = Tryd.pinned.checked.prog.looks [] ∧ ∀ (j : Nat) t, fn.params[j]? = some t → Tryd.pinned.checked.prog.wantsStandIn t = false := by
  obtain rfl : f = 4 := Option.some.inj ((show Tryd.prog.funcNamed "shamrock/shamrocklaw07.MacKeys" = some 4 by kernel_rfl).symm.trans hf) |>.symm
  obtain rfl : fn = Tryd.f4 := (Option.some.inj (Tryd.func4.symm.trans hfn)).symm
  refine ⟨by kernel_rfl, fun j t ht => ?_⟩
  rw [Tryd.params4] at ht
  have hm : t ∈ [22, 22] := by simpa using Array.mem_of_getElem? ht
  have hall : ([22, 22].all fun u => !Tryd.prog.wantsStandIn u) = true := by kernel_rfl
  exact (show Tryd.prog.wantsStandIn t = false by simpa using List.all_eq_true.1 hall t hm)
theorem card : Rows.MacKeysCardSaid :=
  Claim7.holds_tied_plain_at .later [] _ _ _ _ said (fun _ h => by cases h) (by kernel_rfl) (fun _ h => by cases h) macKeys_row_tie rfl ⟨rfl, rfl⟩ (by kernel_rfl) rfl plain (by kernel_rfl)

end Go.Proofs.YtfemcofjhcanhaaDoor.macKeys
namespace Go.Proofs.YtfemcofjhcanhaaDoor
/-- The statement. -/
theorem macKeys_holds : Rows.MacKeysCardSaid := macKeys.card
#print axioms macKeys_holds
end Go.Proofs.YtfemcofjhcanhaaDoor

