/- For every input MacOwn returns true, and every argument reads behind the call as it did before: no condition. -/
import Derived.Test.YtfemcofjhcanhaaDoorCards
import Derived.Test.YtfemcofjhcanhaaDoorTie
import Derived.ProofKit
import Derived.OpenShut
import Derived.Deep.DeepHandedRow
import Derived.Lib.LaidTab
import Derived.SizedLaws
import Derived.ChangeOld
import Derived.Carry
import Derived.SizedLaws
import Derived.ChangeOld
import Derived.Carry
import Derived.Test.YtfemcofjhcanhaaDoorLawb
import Derived.Test.YtfemcofjhcanhaaDoorMah
import Derived.Test.YtfemcofjhcanhaaDoorGty
namespace Go.Proofs.YtfemcofjhcanhaaDoor.macOwn
open Go.ChangeShapes Go.WideShapes Go.ChangeAt Go.RowKit Go.Shelf Gw Pol

theorem own : ownKnob Tryd.prog.godebug = none := by kernel_rfl
theorem laidOut : laidOutB Tryd.prog = true := by kernel_rfl
/-- A row that holds l, 32 bytes. -/
def MarkIs (l : List Nat) : Value → World → Prop := fun v w => ∃ A c, v = .slice A 32 c ∧ l.length = 32 ∧ In w w.heap.size A c l
theorem MarkIs.mono (l : List Nat) : Gt.Mono (MarkIs l) := by
  rintro v w w' ⟨A, c, rfl, hl, h⟩ hg
  exact ⟨A, c, rfl, hl, (h.below hg).more hg.size⟩
set_option maxRecDepth 100000 in
set_option maxHeartbeats 4000000 in
theorem walk (A : Option Addr) (c : Nat) (l : List Nat) (A' : Option Addr) (c' : Nat) (m : List Nat) (w : World) (hI : In w w.heap.size A c l) (hs : c ≤ 140737488351232) (hI' : In w w.heap.size A' c' m) (hs' : c' ≤ 140737488351232) (hT : KT w) :
    Calls Tryd.prog 6 #[.slice A l.length c, .slice A' m.length c'] w fun e w' => e = .returned (.bool true) ∧ Below w.heap.size w w' := by
  have hcap := hI.cap
  have hcap' := hI'.cap
  obtain ⟨N, hN⟩ : ∃ N, N = l.length := ⟨_, rfl⟩
  obtain ⟨M, hM⟩ : ∃ M, M = m.length := ⟨_, rfl⟩
  have HN := Lib.hid hN
  have HM := Lib.hid hM
  have HI := Lib.hid hI
  have HI' := Lib.hid hI'
  have HK := Lib.hid hT
  obtain ⟨i0, hi0, hz0, hz1, hz2⟩ := info_parts byte_info
  obtain ⟨L7, hL7⟩ : ∃ L, L = l ++ [7, 7] := ⟨_, rfl⟩
  obtain ⟨NK, hNK⟩ : ∃ n, n = L7.length := ⟨_, rfl⟩
  have hNK' : NK = N + 2 := by rw [hNK, hL7, List.length_append, hN]; rfl
  obtain ⟨M8, hM8⟩ : ∃ L, L = m ++ [8, 8] := ⟨_, rfl⟩
  obtain ⟨MC, hMC⟩ : ∃ n, n = M8.length := ⟨_, rfl⟩
  have hMC' : MC = M + 2 := by rw [hMC, hM8, List.length_append, hM]; rfl
  obtain ⟨M1, hM1⟩ : ∃ n, n = M + 1 := ⟨_, rfl⟩
  have HX7 := Lib.hid (show co L7 N = 7 by rw [hL7, co_append_right (by omega), hN, Nat.sub_self]; rfl)
  have HX8 := Lib.hid (show co M8 M1 = 8 by rw [hM8, co_append_right (by omega), hM1, hM, Nat.add_sub_cancel_left]; rfl)
  have hNb : N ≤ 140737488351232 := by omega
  have hMb : M ≤ 140737488351232 := by omega
  have em1 : IntKind.i64.wrap ((M : Int) + 1) = (M1 : Int) := by rw [IntKind.wrap_i64]; omega
  have lN : (N : Int) < (NK : Int) := by omega
  have lM : (M1 : Int) < (MC : Int) := by omega
  have HL7 := Lib.hid hL7
  have HNK := Lib.hid hNK
  have HM8 := Lib.hid hM8
  have HMC := Lib.hid hMC
  have HN2 := Lib.hid hNK'
  have HM2 := Lib.hid hMC'
  have HL := Lib.hid (show l.length ≤ 140737488355328 by omega)
  have HL' := Lib.hid (show m.length ≤ 140737488355264 by omega)
  have HSL := Lib.hid (hI.sl.alloc (Nat.le_refl _) (.cells #[] 5))
  have hnil := hI.none_
  have hnil' := hI'.none_
  have hb77 : BB [7, 7] := fun y hy => by simp at hy; omega
  have hb88 : BB [8, 8] := fun y hy => by simp at hy; omega
  rw [← hN, ← hM]
  obtain ⟨σ, hσ⟩ : ∃ σ, σ = str (Sh.hm l m) := ⟨_, rfl⟩
  obtain ⟨τ, hτ⟩ : ∃ σ, σ = str l := ⟨_, rfl⟩
  obtain ⟨υ, hυ⟩ : ∃ σ, σ = str m := ⟨_, rfl⟩
  have HSG := Lib.hid hσ
  have HTU := Lib.hid hτ
  have HUP := Lib.hid hυ
  have HK0 := HK
  have HI0 := HI
  have HI0' := HI'
  clear hN hM hI hI' hT hσ hτ hυ hcap hcap' hs hs' hL7 hNK hM8 hMC hNK' hMC' hM1 HK HI HI'
  go_enter Tryd.func6, Tryd.ntmps6
  go_wp2_with (first
    | (at_builtin; refine wpList_app rfl (.tmp 8) (.tmp 9) 22 rfl w.heap.size 5 i0 _ Tryd.underlying22 hi0 hz0 hz1 hz2 rfl (some ⟨w.heap.size, 0, none⟩) 0 0 [] rfl rfl (Own.lit0 w w.heap.size 5 (Nat.le_refl _)) w.heap.size A N c l rfl HN.out hnil HSL.out (by rw [← HN.out]; simp; omega) (by simp) ?_; intro A2 c2 w2 hown2 hgr2; rw [List.nil_append] at hown2; rw [List.nil_append, ← HN.out])
    | (at_builtin; refine wpList_app rfl (.tmp 10) (.tmp 11) 22 rfl w.heap.size 5 i0 _ Tryd.underlying22 hi0 hz0 hz1 hz2 rfl A2 N c2 l rfl HN.out (hown2.alloc _) (w2.heap.size + 1) (some ⟨w2.heap.size, 0, none⟩) 2 2 [7, 7] rfl rfl (fun h => by cases h) (Sl.lit w2 5 _ hb77) (by rw [← HN.out]; simp; omega) (by rw [World.size_alloc]; have := hgr2.size; rw [World.size_alloc] at this; omega) ?_; intro A3 cK w3 hown3 hgr3; rw [← HL7.out] at hown3; rw [← HL7.out, ← HNK.out]
       have hb2 := below_lit' (Below.refl w.heap.size w) (Nat.le_refl _) hgr2
       have hb3 := below_app hb2 hb2.size hown2 hgr3
       have hs3 := hb3.size
       have HB3 := Lib.hid hb3
       have HIM3 := Lib.hid ((HI0'.out.below hb3).more hs3)
       have HSM := Lib.hid (HIM3.out.sl.alloc (Nat.le_refl _) (.cells #[] 5))
       obtain ⟨gk, hA3, _, _⟩ := Own.store hown3 (k := 0) (by rw [← HNK.out]; omega)
       subst hA3
       have hcK : (N : Int) ≤ (cK : Int) := by have := hown3.cap; rw [← HNK.out] at this; omega
       have HO3 := Lib.hid hown3
       clear hown2 hgr2 hgr3 hown3 HSL hb2 hb3)
    | (at_builtin; refine wpList_app rfl (.tmp 13) (.tmp 14) 22 rfl w3.heap.size 5 i0 _ Tryd.underlying22 hi0 hz0 hz1 hz2 rfl (some ⟨w3.heap.size, 0, none⟩) 0 0 [] rfl rfl (Own.lit0 w3 w3.heap.size 5 (Nat.le_refl _)) w3.heap.size A' M c' m rfl HM.out hnil' HSM.out (by rw [← HM.out]; simp; omega) (by simp) ?_; intro A4 c4 w4 hown4 hgr4; rw [List.nil_append] at hown4; rw [List.nil_append, ← HM.out])
    | (at_builtin; refine wpList_app rfl (.tmp 15) (.tmp 16) 22 rfl w3.heap.size 5 i0 _ Tryd.underlying22 hi0 hz0 hz1 hz2 rfl A4 M c4 m rfl HM.out (hown4.alloc _) (w4.heap.size + 1) (some ⟨w4.heap.size, 0, none⟩) 2 2 [8, 8] rfl rfl (fun h => by cases h) (Sl.lit w4 5 _ hb88) (by rw [← HM.out]; simp; omega) (by rw [World.size_alloc]; have := hgr4.size; rw [World.size_alloc] at this; omega) ?_; intro A5 cC w6 hown5 hgr5; rw [← HM8.out] at hown5; rw [← HM8.out, ← HMC.out]
       have hb4 := below_lit' (Below.refl w3.heap.size w3) (Nat.le_refl _) hgr4
       have hb5 := below_app hb4 hb4.size hown4 hgr5
       obtain ⟨gc, hA5, _, _⟩ := Own.store hown5 (k := 0) (by rw [← HMC.out]; omega)
       subst hA5
       have hcC : (M : Int) ≤ (cC : Int) := by have := hown5.cap; have h2 := HM2.out; rw [← HMC.out] at this; omega
       have HOC := Lib.hid hown5
       have HOK := Lib.hid (HO3.out.kept hb5)
       have HB6 := Lib.hid (HB3.out.trans (hb5.mono hs3))
       clear hown4 hgr4 hgr5 hown5 HSM hb4 hb5 HO3 HIM3)
    | fail)
  have hs6 := HB6.out.size
  have HIK := Lib.hid (show In w6 w6.heap.size (some ⟨gk, 0, none⟩) cK l by
    have h := HOK.out.inn
    refine ⟨?_, by rw [← HN.out]; omega, h.none_⟩
    have h2 := h.sl.take N
    rwa [HL7.out, HN.out, List.take_left] at h2)
  have HIC := Lib.hid (show In w6 w6.heap.size (some ⟨gc, 0, none⟩) cC m by
    have h := HOC.out.inn
    refine ⟨?_, by rw [← HM.out]; omega, h.none_⟩
    have h2 := h.sl.take M
    rwa [HM8.out, HM.out, List.take_left] at h2)
  have HK := Lib.hid (HK0.out.to HB6.out)
  have HI := Lib.hid ((HI0.out.below HB6.out).more hs6)
  have HI' := Lib.hid ((HI0'.out.below HB6.out).more hs6)
  clear hs6 HB3 hs3 HK0 HI0 HI0' hb77 hb88 hnil hnil'
  rename_i K hK
  refine Gt.regionA [Gt.Is (.slice (some ⟨gk, 0, none⟩) NK cK), Gt.Is (.slice A N c), Gt.Is (.int .i64 (N : Int)), Gt.Is (.slice (some ⟨gk, 0, none⟩) N cK), Gt.Is (.slice (some ⟨gc, 0, none⟩) MC cC), Gt.Is (.slice A' M c'), Gt.Is (.int .i64 (M : Int)), Gt.Is (.slice (some ⟨gc, 0, none⟩) M cC), MarkIs (Sh.hm l m), MarkIs (Sh.hm l m)] 74
    [⟨[], [5], none⟩, ⟨[], [0], none⟩, ⟨[(1, 19)], [], none⟩, ⟨[(0, 18), (2, 20)], [], none⟩, ⟨[], [6], none⟩, ⟨[], [1], none⟩, ⟨[(5, 23)], [], none⟩, ⟨[(4, 22), (6, 24)], [], none⟩, ⟨[(3, 21), (7, 25)], [], none⟩, ⟨[(8, 26)], [], none⟩]
    [(0, 18), (1, 19), (2, 20), (3, 21), (4, 22), (5, 23), (6, 24), (7, 25), (8, 26), (9, 7)] (by kernel_rfl) (by kernel_rfl) (by kernel_rfl) (by kernel_rfl) ?_ ?_ ?_
  · simp only [Gt.Monos]
    repeat' apply And.intro
    all_goals (first | exact trivial | exact Gt.Is.mono _ | exact MarkIs.mono _)
  · simp only [Gt.Obs]
    repeat' apply And.intro
    all_goals try exact trivial
    all_goals (
      intro a w5 hg
      have hg' : Below w6.heap.size w6 w5 := hg
      simp only [Gt.Pre, Gt.Kept, Gt.Guarded, Gt.tys, List.getD_cons_zero, List.getD_cons_succ, Gt.Is, Nat.zero_add, Nat.reduceAdd]
      intros
      try (refine ⟨fun _ => ?_, fun hne => absurd (by assumption) hne⟩))
    all_goals (first
      | exact Gt.ok_move rfl (by assumption)
      | exact Gt.ok_assign rfl (by assumption)
      | exact Gt.ok_pick rfl (by assumption) (by rw [if_pos rfl]; assumption)
      | (refine Gt.ok_call (f := 8) rfl #[.slice (some ⟨gk, 0, none⟩) N cK, .slice (some ⟨gc, 0, none⟩) M cC] (by kernel_rfl) ?_ ((mac_any (some ⟨gk, 0, none⟩) cK N l (some ⟨gc, 0, none⟩) cC M m _ HN.out HM.out ((HIK.out.below hg').more hg'.size) ((HIC.out.below hg').more hg'.size) HL.out HL'.out (HK.out.to hg')).mono ?_)
         · simp [*]
           done
         rintro e w6 ⟨A6, c6, rfl, hown6, hB6⟩
         exact ⟨_, rfl, hB6, A6, c6, rfl, Sh.hm_len _ _, hown6.inn⟩)
      | (exact Gt.ok_assign rfl (by assumption))
      | (refine Gt.ok_run ?_ rfl
         simp only [execOp, resolve, List.map_toArray, List.map_cons, List.map_nil, Option.map_some, Option.map_none, *]
         go_simp
         done))
  · intro a w5 hg
    have hg' : Below w6.heap.size w6 w5 := hg
    simp only [Gt.Pre, Gt.tys, List.getD_cons_zero, List.getD_cons_succ, Gt.Is]
    intro h0 h1 h2 h3 h4 h5 h6 h7 h8 h9
    obtain ⟨A8, c8, e8, _⟩ := h8
    obtain ⟨AX, cX, e9, _, hIX⟩ := h9
    show K _ _
    refine hK _ _ ?_
    simp only [Gt.puts, List.foldl_cons, List.foldl_nil, h0, h1, h2, h3, h4, h5, h6, h7, e8, e9]
    simp only [Act.put, List.setIfInBounds_toArray, List.set_cons_zero, List.set_cons_succ]
    obtain ⟨w8, hw8⟩ : ∃ w8, w8 = w5 := ⟨_, rfl⟩
    rw [← hw8] at hIX hg' ⊢
    have hs6 := HB6.out.size
    have HB8 := Lib.hid (HB6.out.trans (hg'.mono hs6))
    have HIX := Lib.hid hIX
    have HK6 := HK
    have HI6 := HI
    have HI6' := HI'
    have HIK6 := HIK
    have HIC6 := HIC
    have HOK6 := HOK
    have HOC6 := HOC
    clear HK HI HI' HIK HIC HOK HOC h0 h1 h2 h3 h4 h5 h6 h7 e8 e9 hw8 hg a
    have HK := Lib.hid (HK6.out.to hg')
    have HI := Lib.hid ((HI6.out.below hg').more hg'.size)
    have HI' := Lib.hid ((HI6'.out.below hg').more hg'.size)
    have HIK := Lib.hid ((HIK6.out.below hg').more hg'.size)
    have HIC := Lib.hid ((HIC6.out.below hg').more hg'.size)
    have HOK := Lib.hid (HOK6.out.kept hg')
    have HOC := Lib.hid (HOC6.out.kept hg')
    clear HK6 HI6 HI6' HIK6 HIC6 HOK6 HOC6 hg' hIX hK
    go_wp2
    rename_i K3 hK3
    refine Gt.regionA [Gt.Is (.bool true), Gt.Is (.bool true), Gt.Is (.slice AX 32 cX), Gt.Is (.string σ), Gt.Is (.slice A N c), Gt.Is (.slice A' M c'), MarkIs (Sh.hm l m), Gt.Is (.string σ), Gt.Is (.bool true), Gt.Is (.bool true), Gt.Is (.bool true), Gt.Is (.slice (some ⟨gk, 0, none⟩) NK cK), Gt.Is (.slice A N c), Gt.Is (.int .i64 (N : Int)), Gt.Is (.slice (some ⟨gk, 0, none⟩) N cK), Gt.Is (.string τ), Gt.Is (.slice A N c), Gt.Is (.string τ), Gt.Is (.bool true), Gt.Is (.bool true), Gt.Is (.bool true), Gt.Is (.slice (some ⟨gc, 0, none⟩) MC cC), Gt.Is (.slice A' M c'), Gt.Is (.int .i64 (M : Int)), Gt.Is (.slice (some ⟨gc, 0, none⟩) M cC), Gt.Is (.string υ), Gt.Is (.slice A' M c'), Gt.Is (.string υ), Gt.Is (.bool true), Gt.Is (.bool true), Gt.Is (.bool true), Gt.Is (.slice (some ⟨gk, 0, none⟩) NK cK), Gt.Is (.slice A N c), Gt.Is (.int .i64 (N : Int)), Gt.Is (.pointer (some ⟨gk, N, none⟩)), Gt.Is (.int .u8 7), Gt.Is (.bool true), Gt.Is (.bool true), Gt.Is (.bool true), Gt.Is (.slice (some ⟨gc, 0, none⟩) MC cC), Gt.Is (.slice A' M c'), Gt.Is (.int .i64 (M : Int)), Gt.Is (.int .i64 (M1 : Int)), Gt.Is (.pointer (some ⟨gc, M1, none⟩)), Gt.Is (.int .u8 8), Gt.Is (.bool true), Gt.Is (.bool true), Gt.Is (.bool true)] 74
      [⟨[], [], none⟩, ⟨[(0, 27)], [], none⟩, ⟨[(1, 28)], [7], some (28, true)⟩, ⟨[(1, 28), (2, 29)], [], some (28, true)⟩, ⟨[(1, 28)], [0], some (28, true)⟩, ⟨[(1, 28)], [1], some (28, true)⟩, ⟨[(1, 28), (4, 31), (5, 32)], [], some (28, true)⟩, ⟨[(1, 28), (6, 33)], [], some (28, true)⟩, ⟨[(1, 28), (3, 30), (7, 34)], [], some (28, true)⟩, ⟨[(1, 28), (8, 35)], [], none⟩, ⟨[(9, 36)], [], none⟩, ⟨[(10, 37)], [5], some (37, true)⟩, ⟨[(10, 37)], [0], some (37, true)⟩, ⟨[(10, 37), (12, 39)], [], some (37, true)⟩, ⟨[(10, 37), (11, 38), (13, 40)], [], some (37, true)⟩, ⟨[(10, 37), (14, 41)], [], some (37, true)⟩, ⟨[(10, 37)], [0], some (37, true)⟩, ⟨[(10, 37), (16, 43)], [], some (37, true)⟩, ⟨[(10, 37), (15, 42), (17, 44)], [], some (37, true)⟩, ⟨[(10, 37), (18, 45)], [], none⟩, ⟨[(19, 46)], [], none⟩, ⟨[(20, 47)], [6], some (47, true)⟩, ⟨[(20, 47)], [1], some (47, true)⟩, ⟨[(20, 47), (22, 49)], [], some (47, true)⟩, ⟨[(20, 47), (21, 48), (23, 50)], [], some (47, true)⟩, ⟨[(20, 47), (24, 51)], [], some (47, true)⟩, ⟨[(20, 47)], [1], some (47, true)⟩, ⟨[(20, 47), (26, 53)], [], some (47, true)⟩, ⟨[(20, 47), (25, 52), (27, 54)], [], some (47, true)⟩, ⟨[(20, 47), (28, 55)], [], none⟩, ⟨[(29, 56)], [], none⟩, ⟨[(30, 57)], [5], some (57, true)⟩, ⟨[(30, 57)], [0], some (57, true)⟩, ⟨[(30, 57), (32, 59)], [], some (57, true)⟩, ⟨[(30, 57), (31, 58), (33, 60)], [], some (57, true)⟩, ⟨[(30, 57), (34, 61)], [], some (57, true)⟩, ⟨[(30, 57), (35, 62)], [], some (57, true)⟩, ⟨[(30, 57), (36, 63)], [], none⟩, ⟨[(37, 64)], [], none⟩, ⟨[(38, 65)], [6], some (65, true)⟩, ⟨[(38, 65)], [1], some (65, true)⟩, ⟨[(38, 65), (40, 67)], [], some (65, true)⟩, ⟨[(38, 65), (41, 68)], [], some (65, true)⟩, ⟨[(38, 65), (39, 66), (42, 69)], [], some (65, true)⟩, ⟨[(38, 65), (43, 70)], [], some (65, true)⟩, ⟨[(38, 65), (44, 71)], [], some (65, true)⟩, ⟨[(38, 65), (45, 72)], [], none⟩, ⟨[(46, 73)], [], none⟩]
      [(0, 27), (1, 28), (2, 29), (3, 30), (4, 31), (5, 32), (6, 33), (7, 34), (8, 35), (9, 36), (10, 37), (11, 38), (12, 39), (13, 40), (14, 41), (15, 42), (16, 43), (17, 44), (18, 45), (19, 46), (20, 47), (21, 48), (22, 49), (23, 50), (24, 51), (25, 52), (26, 53), (27, 54), (28, 55), (29, 56), (30, 57), (31, 58), (32, 59), (33, 60), (34, 61), (35, 62), (36, 63), (37, 64), (38, 65), (39, 66), (40, 67), (41, 68), (42, 69), (43, 70), (44, 71), (45, 72), (46, 73), (47, 4)] (by kernel_rfl) (by kernel_rfl) (by kernel_rfl) (by kernel_rfl) ?_ ?_ ?_
    · simp only [Gt.Monos]
      repeat' apply And.intro
      all_goals (first | exact trivial | exact Gt.Is.mono _ | exact MarkIs.mono _)
    · simp only [Gt.Obs]
      repeat' apply And.intro
      all_goals try exact trivial
      all_goals (
        intro a w5 hg
        have hg' : Below w8.heap.size w8 w5 := hg
        simp only [Gt.Pre, Gt.Kept, Gt.Guarded, Gt.tys, List.getD_cons_zero, List.getD_cons_succ, Gt.Is, Nat.zero_add, Nat.reduceAdd]
        intros
        try (refine ⟨fun _ => ?_, fun hne => absurd (by assumption) hne⟩))
      all_goals (first
        | exact Gt.ok_move rfl (by assumption)
        | exact Gt.ok_assign rfl (by assumption)
        | exact Gt.ok_pick rfl (by assumption) (by rw [if_pos rfl]; assumption)
        | (exact Gt.ok_call (f := 7) rfl #[] (by kernel_rfl) (by simp) ((answers_any _ (HK.out.to hg')).mono fun e w6 h => ⟨_, h.1, h.2, rfl⟩))
        | (refine Gt.ok_call (f := 8) rfl #[.slice A N c, .slice A' M c'] (by kernel_rfl) ?_ ((mac_any A c N l A' c' M m _ HN.out HM.out ((HI.out.below hg').more hg'.size) ((HI'.out.below hg').more hg'.size) HL.out HL'.out (HK.out.to hg')).mono ?_)
           · simp [*]
             done
           rintro e w6 ⟨A6, c6, rfl, hown6, hB6⟩
           exact ⟨_, rfl, hB6, A6, c6, rfl, Sh.hm_len _ _, hown6.inn⟩)
        | (rename_i h6 _
           obtain ⟨A6, c6, e6, hl6, hI6⟩ := h6
           have k5 := conv_sl (P := Tryd.prog) hI6.sl Tryd.underlying22 Tryd.underlying5 Tryd.underlying9 c6
           rw [hl6] at k5
           rw [← HSG.out] at k5
           exact Gt.ok_convert rfl e6 k5 rfl)
        | (have k5 := conv_sl (P := Tryd.prog) (HIX.out.below hg').sl Tryd.underlying22 Tryd.underlying5 Tryd.underlying9 cX
           rw [Sh.hm_len, ← HSG.out] at k5
           exact Gt.ok_convert rfl (by assumption) k5 rfl)
        | (have k5 := conv_sl (P := Tryd.prog) (HIK.out.below hg').sl Tryd.underlying22 Tryd.underlying5 Tryd.underlying9 cK
           rw [← HN.out, ← HTU.out] at k5
           exact Gt.ok_convert rfl (by assumption) k5 rfl)
        | (have k5 := conv_sl (P := Tryd.prog) (HI.out.below hg').sl Tryd.underlying22 Tryd.underlying5 Tryd.underlying9 c
           rw [← HN.out, ← HTU.out] at k5
           exact Gt.ok_convert rfl (by assumption) k5 rfl)
        | (have k5 := conv_sl (P := Tryd.prog) (HIC.out.below hg').sl Tryd.underlying22 Tryd.underlying5 Tryd.underlying9 cC
           rw [← HM.out, ← HUP.out] at k5
           exact Gt.ok_convert rfl (by assumption) k5 rfl)
        | (have k5 := conv_sl (P := Tryd.prog) (HI'.out.below hg').sl Tryd.underlying22 Tryd.underlying5 Tryd.underlying9 c'
           rw [← HM.out, ← HUP.out] at k5
           exact Gt.ok_convert rfl (by assumption) k5 rfl)
        | (have x6 := (HOK.out.kept hg').cell (k := N) (by rw [← HNK.out]; omega)
           have y6 := (HOC.out.kept hg').cell (k := M1) (by rw [← HMC.out]; omega)
           rw [HX7.out] at x6
           rw [HX8.out] at y6
           refine Gt.ok_run ?_ rfl
           simp only [execOp, resolve, List.map_toArray, List.map_cons, List.map_nil, Option.map_some, Option.map_none, *]
           go_simp
           done))
    · intro a w5 hg
      have hg' : Below w8.heap.size w8 w5 := hg
      simp only [Gt.Pre, Gt.tys, List.getD_cons_zero, List.getD_cons_succ, Gt.Is]
      intro h0 h1 h2 h3 h4 h5 h6 h7 h8 h9 h10 h11 h12 h13 h14 h15 h16 h17 h18 h19 h20 h21 h22 h23 h24 h25 h26 h27 h28 h29 h30 h31 h32 h33 h34 h35 h36 h37 h38 h39 h40 h41 h42 h43 h44 h45 h46 h47
      obtain ⟨A6, c6, e6, _⟩ := h6
      show K3 _ _
      refine hK3 _ _ ?_
      simp only [Gt.puts, List.foldl_cons, List.foldl_nil, h0, h1, h2, h3, h4, h5, e6, h7, h8, h9, h10, h11, h12, h13, h14, h15, h16, h17, h18, h19, h20, h21, h22, h23, h24, h25, h26, h27, h28, h29, h30, h31, h32, h33, h34, h35, h36, h37, h38, h39, h40, h41, h42, h43, h44, h45, h46, h47]
      simp only [Act.put, List.setIfInBounds_toArray, List.set_cons_zero, List.set_cons_succ]
      go_wp2
      go_ret
      exact ⟨rfl, HB8.out.trans (hg'.mono HB8.out.size)⟩

theorem gTab : Tryd.prog.globalNamed "shamrock/sha.roundWords" = some 0 := by kernel_rfl
theorem gTabType : (Tryd.prog.globals[0]?).map (·.type) = some 42 := by kernel_rfl
theorem cellsT : Tryd.prog.cellsOf 42 = 64 := by kernel_rfl
theorem cellsE : Tryd.prog.cellsOf 35 = 1 := by kernel_rfl
theorem table {W : World} (h : laidMetH Tryd.prog Rows.macOwnRow.laid W) : Lib.TabIs Tryd.prog W "shamrock/sha.roundWords" .u32 [1116352408, 1899447441, 3049323471, 3921009573, 961987163, 1508970993, 2453635748, 2870763221, 3624381080, 310598401, 607225278, 1426881987, 1925078388, 2162078206, 2614888103, 3248222580, 3835390401, 4022224774, 264347078, 604807628, 770255983, 1249150122, 1555081692, 1996064986, 2554220882, 2821834349, 2952996808, 3210313671, 3336571891, 3584528711, 113926993, 338241895, 666307205, 773529912, 1294757372, 1396182291, 1695183700, 1986661051, 2177026350, 2456956037, 2730485921, 2820302411, 3259730800, 3345764771, 3516065817, 3600352804, 4094571909, 275423344, 430227734, 506948616, 659060556, 883997877, 958139571, 1322822218, 1537002063, 1747873779, 1955562222, 2024104815, 2227730452, 2361852424, 2428436474, 2756734187, 3204031479, 3329325298] :=
  Lib.tabIs_of_head (rest := []) gTab gTabType Tryd.underlying42 Tryd.underlying35 cellsE cellsT h
/-- The table's cells, as the walks ask them. -/
theorem tabK {W : World} (h : laidMetH Tryd.prog Rows.macOwnRow.laid W) : KT W := fun t ht => by
  rw [(table h).cell gTab t ht]
  have hall : ∀ t, t < 64 → ([1116352408, 1899447441, 3049323471, 3921009573, 961987163, 1508970993, 2453635748, 2870763221, 3624381080, 310598401, 607225278, 1426881987, 1925078388, 2162078206, 2614888103, 3248222580, 3835390401, 4022224774, 264347078, 604807628, 770255983, 1249150122, 1555081692, 1996064986, 2554220882, 2821834349, 2952996808, 3210313671, 3336571891, 3584528711, 113926993, 338241895, 666307205, 773529912, 1294757372, 1396182291, 1695183700, 1986661051, 2177026350, 2456956037, 2730485921, 2820302411, 3259730800, 3345764771, 3516065817, 3600352804, 4094571909, 275423344, 430227734, 506948616, 659060556, 883997877, 958139571, 1322822218, 1537002063, 1747873779, 1955562222, 2024104815, 2227730452, 2361852424, 2428436474, 2756734187, 3204031479, 3329325298] : List Int).getD t 0 = (Pol.co Sh.kk t : Int) := by decide +kernel
  rw [hall t ht]
set_option maxRecDepth 100000 in
theorem contract (H : Type) (enc : TypeId × Value → H) (W : World) (base : Nat) (args : Array Value) (ds gs : List (DataW H)) (before : List MemPlace)
    (hval0 : ∀ (j : Nat) t v, Tryd.f6.params[j]? = some t → args[j]? = some v → Value.okWide Tryd.prog W .any base t v)
    (hW : DataW.Whole enc Tryd.prog Tryd.f6.params.toList Rows.macOwnSpec.vars false W args.toList ds gs before)
    (hsz0 : (DataW.weightsEach Tryd.prog (Tryd.f6.params.toList ++ Rows.macOwnSpec.plain.varTypes Tryd.prog) (ds ++ gs)).all (· ≤ reachBytes) = true) (hL : laidMetH Tryd.prog Rows.macOwnRow.laid W) :
    Calls Tryd.prog 6 args W fun e W' => ∃ v, e = .returned v ∧ Rows.macOwnSpec.post enc Tryd.prog Tryd.f6 false true false false W args v W' := by
  have hval : ∀ (j : Nat) t v, Tryd.f6.params[j]? = some t → args[j]? = some v → Value.okWide Tryd.prog W .any base t v := hval0
  have hW' := hW
  obtain ⟨p, q, hA0, hV, rfl, _hfz, _hnd⟩ := hW
  have hA : DataW.TrodAll enc Tryd.prog W 0 (fun _ => true) true Tryd.f6.params.toList args.toList ds p := hA0
  have hsz : (DataW.weightsEach Tryd.prog (Tryd.f6.params.toList ++ Rows.macOwnSpec.plain.varTypes Tryd.prog) (ds ++ gs)).all (· ≤ reachBytes) = true := hsz0
  rw [Tryd.params6] at hA hval hsz
  obtain ⟨v0, vs0, d0, ds0, p0, q0, hargs, rfl, rfl, h0, r0⟩ := trodAll_cons hA
  obtain ⟨v1, vs1, d1, ds1, p1, q1, rfl, rfl, rfl, h1, r1⟩ := trodAll_cons r0
  obtain ⟨rfl, rfl, rfl⟩ := trodAll_nil r1
  obtain rfl : args = #[v0, v1] := by cases args; simp_all
  obtain ⟨rfl, rfl⟩ := trodVars_none hV
  have k0 := h0
  have lt0 : ∀ x ∈ p0, x.block < W.heap.size := by obtain ⟨m, hm⟩ := k0; exact DataW.trod_lt m _ _ _ hm
  obtain ⟨A0, c0, l0, rfl, w0, sz0⟩ := open_bytes Tryd.underlying22 Tryd.underlying5 (by kernel_rfl) (hval 0 22 v0 rfl rfl) h0
  have s0 := sized_bytes hsz (j := 0) (t := 22) (e := 5) rfl rfl Tryd.underlying22 (by kernel_rfl) sz0
  have k1 := h1
  have lt1 : ∀ x ∈ p1, x.block < W.heap.size := by obtain ⟨m, hm⟩ := k1; exact DataW.trod_lt m _ _ _ hm
  obtain ⟨A1, c1, l1, rfl, w1, sz1⟩ := open_bytes Tryd.underlying22 Tryd.underlying5 (by kernel_rfl) (hval 1 22 v1 rfl rfl) h1
  have s1 := sized_bytes hsz (j := 1) (t := 22) (e := 5) rfl rfl Tryd.underlying22 (by kernel_rfl) sz1
  have hT := tabK hL
  clear hA0 hval0 hsz0 hsz hL
  refine (walk A0 c0 l0 A1 c1 l1 W w0 s0 w1 s1 hT).mono fun e W' ⟨he, bel⟩ => ?_
  subst he
  exact ⟨_, rfl, _, _, _, [], _, [], hW', trodAll_mk1 (shut_bool Tryd.underlying4 _), (trodAll_cons_mk (Below.trod laidOut (by kernel_rfl) (of_decide_eq_true (by kernel_rfl)) k0 bel lt0) (trodAll_cons_mk (Below.trod laidOut (by kernel_rfl) (of_decide_eq_true (by kernel_rfl)) k1 bel lt1) trodAll_mk0)), rfl, bel.frame _, fun h => by cases h⟩
noncomputable def laidWorld (os : Os) : World :=
  { World.holding Tryd.prog os ⟨#[], #[], []⟩ with heap := (World.holding Tryd.prog os ⟨#[], #[], []⟩).heap.modify 0 fun
      | .cells _ t frozen => .cells #[.int .u32 1116352408, .int .u32 1899447441, .int .u32 3049323471, .int .u32 3921009573, .int .u32 961987163, .int .u32 1508970993, .int .u32 2453635748, .int .u32 2870763221, .int .u32 3624381080, .int .u32 310598401, .int .u32 607225278, .int .u32 1426881987, .int .u32 1925078388, .int .u32 2162078206, .int .u32 2614888103, .int .u32 3248222580, .int .u32 3835390401, .int .u32 4022224774, .int .u32 264347078, .int .u32 604807628, .int .u32 770255983, .int .u32 1249150122, .int .u32 1555081692, .int .u32 1996064986, .int .u32 2554220882, .int .u32 2821834349, .int .u32 2952996808, .int .u32 3210313671, .int .u32 3336571891, .int .u32 3584528711, .int .u32 113926993, .int .u32 338241895, .int .u32 666307205, .int .u32 773529912, .int .u32 1294757372, .int .u32 1396182291, .int .u32 1695183700, .int .u32 1986661051, .int .u32 2177026350, .int .u32 2456956037, .int .u32 2730485921, .int .u32 2820302411, .int .u32 3259730800, .int .u32 3345764771, .int .u32 3516065817, .int .u32 3600352804, .int .u32 4094571909, .int .u32 275423344, .int .u32 430227734, .int .u32 506948616, .int .u32 659060556, .int .u32 883997877, .int .u32 958139571, .int .u32 1322822218, .int .u32 1537002063, .int .u32 1747873779, .int .u32 1955562222, .int .u32 2024104815, .int .u32 2227730452, .int .u32 2361852424, .int .u32 2428436474, .int .u32 2756734187, .int .u32 3204031479, .int .u32 3329325298] t frozen
      | o => o }
set_option maxRecDepth 100000 in
theorem laid_met (os : Os) : laidMet Tryd.prog Rows.macOwnRow.laid ((laidWorld os).forCall (fun _ _ => 0) ⟨#[], #[.slice none 0 0, .slice none 0 0], []⟩).memory :=
  laidMet_of_run' 8 (by kernel_rfl) (by kernel_rfl)
theorem reads (os : Os) {H : Type} (enc : TypeId × Value → H) : ∃ places, DataW.whole enc Tryd.prog ((laidWorld os).forCall (fun _ _ => 0) ⟨#[], #[.slice none 0 0, .slice none 0 0], []⟩).memory Tryd.f6.params.toList Rows.macOwnSpec.vars false (#[.slice none 0 0, .slice none 0 0] : Array Value).toList 8 = some ([.nil, .nil], [], places) :=
  ⟨[], by kernel_rfl⟩
set_option maxRecDepth 100000 in
theorem lifted (os : Os) (started : os.Started) (H : Type) (enc : TypeId × Value → H) (F : Stop.Interp) :
    ReturnsInHanded {} Tryd.checked os 6 .any ((OpenSpec.ofChange Rows.macOwnSpec).preRow enc Tryd.prog Tryd.f6 Rows.macOwnRow.domain false Rows.macOwnRow.laid) (((OpenSpec.ofChange Rows.macOwnSpec).at F).post enc Tryd.prog Tryd.f6 false true false false) := by
  obtain ⟨places, hx⟩ := reads os enc
  refine returnsInHanded_of_row (C := Tryd.checked) (s := OpenSpec.ofChange Rows.macOwnSpec) own started (by kernel_rfl) Tryd.func6
    (witness_row_at (enc := enc) (C := Tryd.checked) false (laidWorld os) #[.slice none 0 0, .slice none 0 0] rfl (by kernel_rfl) (by kernel_rfl) (by kernel_rfl)
      (OpenSpec.preRow_of_cond 8 hx (by kernel_rfl) (fun k hk => by cases hk) (by kernel_rfl) (laid_met os))) ?_
  intro W base args ds gs before hval hW _ _ hsz hL _ _
  exact contract H enc W base args ds gs before hval hW hsz hL
theorem said : Rows.MacOwnSaid :=
  OpenClaim.holds_of_cond 6 Tryd.f6 rfl rfl rfl rfl rfl rfl rfl ⟨rfl, rfl, rfl, rfl, rfl⟩ rfl rfl rfl rfl rfl (by kernel_rfl) Tryd.func6 (by kernel_rfl)
    (of_decide_eq_true (by kernel_rfl)) (by unfold Func.isWrapper; first | (rw [if_pos (by decide +kernel)]; kernel_rfl) | (rw [if_neg (by decide +kernel)]; exact ⟨rfl, rfl⟩))
    (fun os started H enc _ F => by rw [OpenClaim.pre_eq_preRow]; exact lifted os started H enc F)
theorem plain (f : FuncId) (fn : Func) (hf : Tryd.pinned.checked.prog.funcNamed "shamrock/shamrocklaw07.MacOwn" = some f) (hfn : Tryd.pinned.checked.prog.funcs[f]? = some fn) :
    false = Tryd.pinned.checked.prog.looks [] ∧ ∀ (j : Nat) t, fn.params[j]? = some t → Tryd.pinned.checked.prog.wantsStandIn t = false := by
  obtain rfl : f = 6 := Option.some.inj ((show Tryd.prog.funcNamed "shamrock/shamrocklaw07.MacOwn" = some 6 by kernel_rfl).symm.trans hf) |>.symm
  obtain rfl : fn = Tryd.f6 := (Option.some.inj (Tryd.func6.symm.trans hfn)).symm
  refine ⟨by kernel_rfl, fun j t ht => ?_⟩
  rw [Tryd.params6] at ht
  have hm : t ∈ [22, 22] := by simpa using Array.mem_of_getElem? ht
  have hall : ([22, 22].all fun u => !Tryd.prog.wantsStandIn u) = true := by kernel_rfl
  exact (show Tryd.prog.wantsStandIn t = false by simpa using List.all_eq_true.1 hall t hm)
theorem card : Rows.MacOwnCardSaid :=
  Claim7.holds_tied_plain_at .later [] _ _ _ _ said (fun _ h => by cases h) (by kernel_rfl) (fun _ h => by cases h) macOwn_row_tie rfl ⟨rfl, rfl⟩ (by kernel_rfl) rfl plain (by kernel_rfl)

end Go.Proofs.YtfemcofjhcanhaaDoor.macOwn
namespace Go.Proofs.YtfemcofjhcanhaaDoor
/-- The statement. -/
theorem macOwn_holds : Rows.MacOwnCardSaid := macOwn.card
#print axioms macOwn_holds
end Go.Proofs.YtfemcofjhcanhaaDoor

