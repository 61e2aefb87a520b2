/- For every input MacSame returns true, and every argument reads behind the call as it did before: no condition. -/
import Derived.Test.YtfemcofjhcanhaaDoorCards
import Derived.Test.YtfemcofjhcanhaaDoorTie
import Derived.ProofKit
import Derived.OpenShut
import Derived.Deep.DeepHandedRow
import Derived.Lib.LaidTab
import Derived.SizedLaws
import Derived.ChangeOld
import Derived.Carry
import Derived.SizedLaws
import Derived.ChangeOld
import Derived.Carry
import Derived.Test.YtfemcofjhcanhaaDoorLawb
import Derived.Test.YtfemcofjhcanhaaDoorMah
import Derived.Test.YtfemcofjhcanhaaDoorMaw
namespace Go.Proofs.YtfemcofjhcanhaaDoor.macSame
open Go.ChangeShapes Go.WideShapes Go.ChangeAt Go.RowKit Go.Shelf Gw Pol

theorem own : ownKnob Tryd.prog.godebug = none := by kernel_rfl
theorem laidOut : laidOutB Tryd.prog = true := by kernel_rfl
theorem set_same {l : List Nat} {p x t : Nat} (hp : p < l.length) (hx : co l p = x) : decide (l = l.set p (x ^^^ t)) = ((t : Int) == 0) := by
  have key : l = l.set p (x ^^^ t) ↔ t = 0 := by
    constructor
    · intro h
      have h1 : co l p = x ^^^ t := by rw [h, co_get (by rw [List.length_set]; exact hp), List.getElem_set_self]
      rw [hx] at h1
      have h2 : x ^^^ (x ^^^ t) = 0 := by rw [← h1, Nat.xor_self]
      rwa [← Nat.xor_assoc, Nat.xor_self, Nat.zero_xor] at h2
    · rintro rfl
      rw [Nat.xor_zero, ← hx, co_get hp, List.set_getElem_self]
  rw [Bool.eq_iff_iff, decide_eq_true_iff, key, beq_iff_eq]
  omega
set_option maxRecDepth 100000 in
set_option maxHeartbeats 2000000 in
theorem walk_some (A : Option Addr) (c : Nat) (l : List Nat) (A' : Option Addr) (c' : Nat) (m : List Nat) (a t : Nat) (hab : a < 256) (ht : t < 256) (hl0 : 0 < l.length) (w : World) (hI : In w w.heap.size A c l) (hs : c ≤ 140737488351232) (hI' : In w w.heap.size A' c' m) (hT : KT w) :
    Calls Tryd.prog 5 #[.slice A l.length c, .slice A' m.length c', .int .u8 (a : Int), .int .u8 (t : Int)] w fun e w' => e = .returned (.bool true) ∧ Below w.heap.size w w' := by
  obtain ⟨i0, hi0, hz0, hz1, hz2⟩ := info_parts byte_info
  have hcap := hI.cap
  obtain ⟨N, hN⟩ : ∃ N, N = l.length := ⟨_, rfl⟩
  obtain ⟨M, hM⟩ : ∃ M, M = m.length := ⟨_, rfl⟩
  have HN := Lib.hid hN
  have HM := Lib.hid hM
  have HI0 := Lib.hid hI
  have HI0' := Lib.hid hI'
  have HK0 := Lib.hid hT
  have HL := Lib.hid (show l.length ≤ 140737488355328 by omega)
  have HSL := Lib.hid (hI.sl.alloc (Nat.le_refl _) (.cells #[] 5))
  have hnil := hI.none_
  have hNb : N ≤ 140737488351232 := by omega
  have hN0 : 0 < N := by omega
  have hgt : (0 : Int) < (N : Int) := by omega
  obtain ⟨p, hp⟩ : ∃ p, p = a % N := ⟨_, rfl⟩
  have hpN : p < N := by rw [hp]; exact Nat.mod_lt _ hN0
  have ep : ((a : Int)).tmod (N : Int) = (p : Int) := by rw [hp, Int.tmod_eq_emod_of_nonneg (by omega)]; simp
  have epw : IntKind.i64.wrap (p : Int) = (p : Int) := by rw [IntKind.wrap_i64]; omega
  have eaw : IntKind.i64.wrap (a : Int) = (a : Int) := by rw [IntKind.wrap_i64]; omega
  have hNz : ((N : Int) == 0) = false := beq_eq_false_iff_ne.2 (by omega)
  obtain ⟨x, hx⟩ : ∃ x, x = co l p := ⟨_, rfl⟩
  have hxb : x < 256 := by rw [hx]; exact hI.bb.co p
  obtain ⟨y, hy⟩ : ∃ y, y = x ^^^ t := ⟨_, rfl⟩
  have hyb : y < 256 := by rw [hy]; exact Nat.xor_lt_two_pow (n := 8) hxb ht
  have e1 : bits .xor .u8 (x : Int) (t : Int) = (y : Int) := by rw [hy]; exact u8_xor_nat _ _ hxb ht
  have HX := Lib.hid hx.symm
  obtain ⟨z, hz⟩ : ∃ z, z = ((t : Int) == 0) := ⟨_, rfl⟩
  have ez : ((t : Int) == 0) = z := hz.symm
  have HZ := Lib.hid (show decide (l = l.set p y) = z by rw [hy, hz]; exact set_same (by omega) hx.symm)
  have HNC := Lib.hid (show N = (l.set p y).length by rw [List.length_set]; exact hN)
  obtain ⟨r, hr⟩ : ∃ r, r = decide (l = m) := ⟨_, rfl⟩
  have HR := Lib.hid hr.symm
  obtain ⟨σ, hσ⟩ : ∃ σ, σ = str l := ⟨_, rfl⟩
  obtain ⟨τ, hτ⟩ : ∃ σ, σ = str m := ⟨_, rfl⟩
  have hst : (σ.toList == τ.toList) = r := by rw [hσ, hτ, hr]; exact str_same hI.bb hI'.bb
  have HSG := Lib.hid hσ
  have HTU := Lib.hid hτ
  rw [← hN, ← hM]
  clear hN hM hI hI' hT hp hx hy hz hr hσ hτ hcap hs hl0
  go_enter Tryd.func5, Tryd.ntmps5
  go_wp2_with (first
    | (at_builtin; refine wpList_app rfl (.tmp 10) (.tmp 11) 22 rfl w.heap.size 5 i0 _ Tryd.underlying22 hi0 hz0 hz1 hz2 rfl (some ⟨w.heap.size, 0, none⟩) 0 0 [] rfl rfl (Own.lit0 w w.heap.size 5 (Nat.le_refl _)) w.heap.size A N c l rfl (HN.out) hnil HSL.out (by rw [← HN.out]; simp; omega) (by simp) ?_
       intro A2 c2 w2 hown hgr
       rw [List.nil_append] at hown
       rw [List.nil_append, ← HN.out]
       have hb2 := below_lit' (Below.refl w.heap.size w) (Nat.le_refl _) hgr
       obtain ⟨g, hA2, hg2, hput⟩ := Own.store hown (k := p) (by rw [← HN.out]; exact hpN)
       subst hA2
       have hc := hown.cell (k := p) (by rw [← HN.out]; exact hpN)
       rw [HX.out] at hc
       have hf := hown.frozen p
       have HOC := Lib.hid (hput y hyb)
       have HB3 := Lib.hid (show Below w.heap.size w (w2.setCell ⟨g, p, none⟩ (.int .u8 (y : Int))) from hb2.setCell (p := ⟨g, p, none⟩) hg2 _)
       clear hown hgr HSL hb2 hput)
    | fail)
  obtain ⟨w3, hw3⟩ : ∃ w3, w3 = w2.setCell ⟨g, p, none⟩ (.int .u8 (y : Int)) := ⟨_, rfl⟩
  rw [← hw3] at HOC HB3 ⊢
  clear hw3 hc hf
  obtain ⟨AC, hAC⟩ : ∃ A, A = some (⟨g, 0, none⟩ : Addr) := ⟨_, rfl⟩
  obtain ⟨cC, hcC⟩ : ∃ c, c = c2 := ⟨_, rfl⟩
  rw [← hAC, ← hcC] at HOC ⊢
  have HIC := Lib.hid HOC.out.inn
  have HK := Lib.hid (HK0.out.to HB3.out)
  have HI := Lib.hid ((HI0.out.below HB3.out).more HB3.out.size)
  have HI' := Lib.hid ((HI0'.out.below HB3.out).more HB3.out.size)
  clear hAC hcC HOC
  rename_i K hK
  refine Gt.regionA [Gt.Is (.bool true), Gt.Is (.bool true), Gt.Is (.slice A N c), Gt.Is (.slice A' M c'), Gt.Is (.bool r), Gt.Is (.slice A N c), Gt.Is (.string σ), Gt.Is (.slice A' M c'), Gt.Is (.string τ), Gt.Is (.bool r), Gt.Is (.bool true), Gt.Is (.bool true), Gt.Is (.bool true), Gt.Is (.slice A N c), Gt.Is (.slice AC N cC), Gt.Is (.bool z), Gt.Is (.slice A N c), Gt.Is (.int .i64 (N : Int)), Gt.Is (.bool false), Gt.Is (.bool false), Gt.Is (.int .u8 (t : Int)), Gt.Is (.bool z), Gt.Is (.bool z), Gt.Is (.bool true), Gt.Is (.bool true), Gt.Is (.bool true), Gt.Is (.slice A N c), NoneIs, Gt.Is (.slice A N c), RowIs N l, Gt.Is (.bool true), Gt.Is (.bool true), Gt.Is (.bool true)] 59
    [⟨[], [], none⟩, ⟨[(0, 27)], [], none⟩, ⟨[(1, 28)], [0], some (28, true)⟩, ⟨[(1, 28)], [1], some (28, true)⟩, ⟨[(1, 28), (2, 29), (3, 30)], [], some (28, true)⟩, ⟨[(1, 28)], [0], some (28, true)⟩, ⟨[(1, 28), (5, 32)], [], some (28, true)⟩, ⟨[(1, 28)], [1], some (28, true)⟩, ⟨[(1, 28), (7, 34)], [], some (28, true)⟩, ⟨[(1, 28), (6, 33), (8, 35)], [], some (28, true)⟩, ⟨[(1, 28), (4, 31), (9, 36)], [], some (28, true)⟩, ⟨[(1, 28), (10, 37)], [], none⟩, ⟨[(11, 38)], [], none⟩, ⟨[(12, 39)], [0], some (39, true)⟩, ⟨[(12, 39)], [9], some (39, true)⟩, ⟨[(12, 39), (13, 40), (14, 41)], [], some (39, true)⟩, ⟨[(12, 39)], [0], some (39, true)⟩, ⟨[(12, 39), (16, 43)], [], some (39, true)⟩, ⟨[(12, 39), (17, 44)], [], some (39, true)⟩, ⟨[(12, 39), (18, 45)], [], some (39, true)⟩, ⟨[(19, 46)], [3], some (46, false)⟩, ⟨[(19, 46), (20, 47)], [], some (46, false)⟩, ⟨[(12, 39), (19, 46), (21, 48)], [], some (39, true)⟩, ⟨[(12, 39), (15, 42), (22, 49)], [], some (39, true)⟩, ⟨[(12, 39), (23, 50)], [], none⟩, ⟨[(24, 51)], [], none⟩, ⟨[(25, 52)], [0], some (52, true)⟩, ⟨[(25, 52)], [], some (52, true)⟩, ⟨[(25, 52)], [0], some (52, true)⟩, ⟨[(25, 52), (27, 54), (28, 55)], [], some (52, true)⟩, ⟨[(25, 52), (26, 53), (29, 56)], [], some (52, true)⟩, ⟨[(25, 52), (30, 57)], [], none⟩, ⟨[(31, 58)], [], none⟩]
    [(0, 27), (1, 28), (2, 29), (3, 30), (4, 31), (5, 32), (6, 33), (7, 34), (8, 35), (9, 36), (10, 37), (11, 38), (12, 39), (13, 40), (14, 41), (15, 42), (16, 43), (17, 44), (18, 45), (19, 46), (20, 47), (21, 48), (22, 49), (23, 50), (24, 51), (25, 52), (26, 53), (27, 54), (28, 55), (29, 56), (30, 57), (31, 58), (32, 8)] (by kernel_rfl) (by kernel_rfl) (by kernel_rfl) (by kernel_rfl) ?_ ?_ ?_
  · simp only [Gt.Monos]
    repeat' apply And.intro
    all_goals (first | exact trivial | exact Gt.Is.mono _ | exact RowIs.mono _ _ | exact NoneIs.mono)
  · simp only [Gt.Obs]
    repeat' apply And.intro
    all_goals try exact trivial
    all_goals (
      intro a w5 hg
      have hg' : Below w3.heap.size w3 w5 := hg
      simp only [Gt.Pre, Gt.Kept, Gt.Guarded, Gt.tys, List.getD_cons_zero, List.getD_cons_succ, Gt.Is, Nat.zero_add, Nat.reduceAdd]
      intros
      try (refine ⟨fun _ => ?_, fun hne => absurd (by assumption) hne⟩))
    all_goals (first
      | exact Gt.ok_move rfl (by assumption)
      | exact Gt.ok_assign rfl (by assumption)
      | exact Gt.ok_pick rfl (by assumption) (by rw [if_pos rfl]; assumption)
      | (exact Gt.ok_call (f := 7) rfl #[] (by kernel_rfl) (by simp) ((answers_any _ (HK.out.to hg')).mono fun e w6 h => ⟨_, h.1, h.2, rfl⟩))
      | (refine Gt.ok_call (f := 11) rfl #[.slice A N c, .slice A' M c'] (by kernel_rfl) ?_ ((msame' A c N l A' c' M m r _ w3.heap.size HN.out HM.out HR.out (HI.out.below hg') (HI'.out.below hg') HL.out).mono ?_)
         · simp [*]
           done
         rintro e w6 ⟨rfl, q6, rfl⟩
         exact ⟨_, rfl, Gw.Below.drewN (Below.refl _ w5) q6, rfl⟩)
      | (refine Gt.ok_call (f := 11) rfl #[.slice A N c, .slice AC N cC] (by kernel_rfl) ?_ ((msame' A c N l AC cC N (l.set p y) z _ w3.heap.size HN.out HNC.out HZ.out (HI.out.below hg') (HIC.out.below hg') HL.out).mono ?_)
         · simp [*]
           done
         rintro e w6 ⟨rfl, q6, rfl⟩
         exact ⟨_, rfl, Gw.Below.drewN (Below.refl _ w5) q6, rfl⟩)
      | (have k5 := conv_sl (P := Tryd.prog) (HI.out.below hg').sl Tryd.underlying22 Tryd.underlying5 Tryd.underlying9 c
         rw [← HN.out, ← HSG.out] at k5
         exact Gt.ok_convert rfl (by assumption) k5 rfl)
      | (have k5 := conv_sl (P := Tryd.prog) (HI'.out.below hg').sl Tryd.underlying22 Tryd.underlying5 Tryd.underlying9 c'
         rw [← HM.out, ← HTU.out] at k5
         exact Gt.ok_convert rfl (by assumption) k5 rfl)
      | (refine Gt.ok_runW (v := .slice (some ⟨w5.heap.size, 0, none⟩) 0 0) (w' := w5.alloc (.cells #[] 5)) ?_ ((Below.refl _ w5).alloc (Nat.le_refl _) _) ⟨_, rfl⟩
         simp only [execOp, List.map_toArray, List.map_nil]
         go_simp
         done)
      | (rename_i h54 h55 _
         obtain ⟨g5, e54⟩ := h54
         obtain ⟨A6, c6, w6, hrun6, hI6, hB6⟩ := run_app0 (P := Tryd.prog) (w := w5) 22 22 5 i0 _ Tryd.underlying22 hi0 hz0 hz1 hz2 g5 A N c l (HN.out) ((HI.out.below hg').sl.more hg'.size) HL.out
         exact ok_app rfl e54 h55 hrun6 hB6 ⟨A6, c6, rfl, hI6⟩)
      | (rename_i h56 _
         obtain ⟨A6, c6, e56, hI6⟩ := h56
         refine Gt.ok_call (f := 11) rfl #[.slice A N c, .slice A6 N c6] (by kernel_rfl) ?_ ((msame' A c N l A6 c6 N l true _ w5.heap.size (HN.out) (HN.out) (decide_eq_true rfl) ((HI.out.below hg').more hg'.size) hI6 HL.out).mono ?_)
         · simp [*]
           done
         rintro e w6 ⟨rfl, q6, rfl⟩
         exact ⟨_, rfl, Gw.Below.drewN (Below.refl _ w5) q6, rfl⟩)
      | (exact Gt.ok_pick (b := false) rfl (by assumption) (by rw [if_neg (by decide)]; assumption))
      | (refine Gt.ok_run ?_ rfl
         simp only [execOp, resolve, List.map_toArray, List.map_cons, List.map_nil, *]
         go_simp
         done))
  · intro a w5 hg
    have hg' : Below w3.heap.size w3 w5 := hg
    simp only [Gt.Pre, Gt.tys, List.getD_cons_zero, List.getD_cons_succ, Gt.Is]
    intro h0 h1 h2 h3 h4 h5 h6 h7 h8 h9 h10 h11 h12 h13 h14 h15 h16 h17 h18 h19 h20 h21 h22 h23 h24 h25 h26 h27 h28 h29 h30 h31 h32
    obtain ⟨g27, e27⟩ := h27
    obtain ⟨A29, c29, e29, _⟩ := h29
    show K _ _
    refine hK _ _ ?_
    simp only [Gt.puts, List.foldl_cons, List.foldl_nil, h0, h1, h2, h3, h4, h5, h6, h7, h8, h9, h10, h11, h12, h13, h14, h15, h16, h17, h18, h19, h20, h21, h22, h23, h24, h25, h26, e27, h28, e29, h30, h31, h32]
    simp only [Act.put, List.setIfInBounds_toArray, List.set_cons_zero, List.set_cons_succ]
    go_wp2
    go_ret
    exact ⟨rfl, HB3.out.trans (hg'.mono HB3.out.size)⟩
set_option maxRecDepth 100000 in
set_option maxHeartbeats 2000000 in
theorem walk_none (A : Option Addr) (c : Nat) (A' : Option Addr) (c' : Nat) (m : List Nat) (a t : Nat) (w : World) (hI : In w w.heap.size A c []) (hI' : In w w.heap.size A' c' m) (hT : KT w) :
    Calls Tryd.prog 5 #[.slice A 0 c, .slice A' m.length c', .int .u8 (a : Int), .int .u8 (t : Int)] w fun e w' => e = .returned (.bool true) ∧ Below w.heap.size w w' := by
  obtain ⟨i0, hi0, hz0, hz1, hz2⟩ := info_parts byte_info
  obtain ⟨M, hM⟩ : ∃ M, M = m.length := ⟨_, rfl⟩
  have HM := Lib.hid hM
  have HI0 := Lib.hid hI
  have HI0' := Lib.hid hI'
  have HK0 := Lib.hid hT
  have HL := Lib.hid (show ([] : List Nat).length ≤ 140737488355328 by simp)
  have HNC := Lib.hid (show 0 = ([] : List Nat).length from rfl)
  have HSL := Lib.hid (hI.sl.alloc (Nat.le_refl _) (.cells #[] 5))
  have hnil := hI.none_
  have HZ := Lib.hid (show decide (([] : List Nat) = []) = true from rfl)
  obtain ⟨r, hr⟩ : ∃ r, r = decide (([] : List Nat) = m) := ⟨_, rfl⟩
  have HR := Lib.hid hr.symm
  obtain ⟨σ, hσ⟩ : ∃ σ, σ = str [] := ⟨_, rfl⟩
  obtain ⟨τ, hτ⟩ : ∃ σ, σ = str m := ⟨_, rfl⟩
  have hst : (σ.toList == τ.toList) = r := by rw [hσ, hτ, hr]; exact str_same hI.bb hI'.bb
  have HSG := Lib.hid hσ
  have HTU := Lib.hid hτ
  rw [← hM]
  clear hM hI hI' hT hr hσ hτ
  go_enter Tryd.func5, Tryd.ntmps5
  go_wp2_with (first
    | (at_builtin; refine wpList_app rfl (.tmp 10) (.tmp 11) 22 rfl w.heap.size 5 i0 _ Tryd.underlying22 hi0 hz0 hz1 hz2 rfl (some ⟨w.heap.size, 0, none⟩) 0 0 [] rfl rfl (Own.lit0 w w.heap.size 5 (Nat.le_refl _)) w.heap.size A 0 c [] rfl (rfl) hnil HSL.out (by simp) (by simp) ?_
       intro A2 c2 w2 hown hgr
       rw [List.nil_append] at hown
       rw [List.nil_append, List.length_nil]
       have hb2 := below_lit' (Below.refl w.heap.size w) (Nat.le_refl _) hgr
       have HB3 := Lib.hid hb2
       have HIC0 := Lib.hid hown.inn
       clear hown hgr HSL hb2)
    | fail)
  obtain ⟨w3, hw3⟩ : ∃ w3, w3 = w2 := ⟨_, rfl⟩
  obtain ⟨AC, hAC⟩ : ∃ A, A = A2 := ⟨_, rfl⟩
  obtain ⟨cC, hcC⟩ : ∃ c, c = c2 := ⟨_, rfl⟩
  rw [← hw3, ← hAC, ← hcC] at HIC0
  rw [← hw3] at HB3
  rw [← hw3, ← hAC, ← hcC]
  have HIC := HIC0
  have HK := Lib.hid (HK0.out.to HB3.out)
  have HI := Lib.hid ((HI0.out.below HB3.out).more HB3.out.size)
  have HI' := Lib.hid ((HI0'.out.below HB3.out).more HB3.out.size)
  clear hAC hcC hw3 HIC0
  rename_i K hK
  refine Gt.regionA [Gt.Is (.bool true), Gt.Is (.bool true), Gt.Is (.slice A 0 c), Gt.Is (.slice A' M c'), Gt.Is (.bool r), Gt.Is (.slice A 0 c), Gt.Is (.string σ), Gt.Is (.slice A' M c'), Gt.Is (.string τ), Gt.Is (.bool r), Gt.Is (.bool true), Gt.Is (.bool true), Gt.Is (.bool true), Gt.Is (.slice A 0 c), Gt.Is (.slice AC 0 cC), Gt.Is (.bool true), Gt.Is (.slice A 0 c), Gt.Is (.int .i64 0), Gt.Is (.bool true), Gt.Is (.bool true), Gt.Is undef, Gt.Is undef, Gt.Is (.bool true), Gt.Is (.bool true), Gt.Is (.bool true), Gt.Is (.bool true), Gt.Is (.slice A 0 c), NoneIs, Gt.Is (.slice A 0 c), RowIs 0 [], Gt.Is (.bool true), Gt.Is (.bool true), Gt.Is (.bool true)] 59
    [⟨[], [], none⟩, ⟨[(0, 27)], [], none⟩, ⟨[(1, 28)], [0], some (28, true)⟩, ⟨[(1, 28)], [1], some (28, true)⟩, ⟨[(1, 28), (2, 29), (3, 30)], [], some (28, true)⟩, ⟨[(1, 28)], [0], some (28, true)⟩, ⟨[(1, 28), (5, 32)], [], some (28, true)⟩, ⟨[(1, 28)], [1], some (28, true)⟩, ⟨[(1, 28), (7, 34)], [], some (28, true)⟩, ⟨[(1, 28), (6, 33), (8, 35)], [], some (28, true)⟩, ⟨[(1, 28), (4, 31), (9, 36)], [], some (28, true)⟩, ⟨[(1, 28), (10, 37)], [], none⟩, ⟨[(11, 38)], [], none⟩, ⟨[(12, 39)], [0], some (39, true)⟩, ⟨[(12, 39)], [9], some (39, true)⟩, ⟨[(12, 39), (13, 40), (14, 41)], [], some (39, true)⟩, ⟨[(12, 39)], [0], some (39, true)⟩, ⟨[(12, 39), (16, 43)], [], some (39, true)⟩, ⟨[(12, 39), (17, 44)], [], some (39, true)⟩, ⟨[(12, 39), (18, 45)], [], some (39, true)⟩, ⟨[(19, 46)], [3], some (46, false)⟩, ⟨[(19, 46), (20, 47)], [], some (46, false)⟩, ⟨[(12, 39), (19, 46), (21, 48)], [], some (39, true)⟩, ⟨[(12, 39), (15, 42), (22, 49)], [], some (39, true)⟩, ⟨[(12, 39), (23, 50)], [], none⟩, ⟨[(24, 51)], [], none⟩, ⟨[(25, 52)], [0], some (52, true)⟩, ⟨[(25, 52)], [], some (52, true)⟩, ⟨[(25, 52)], [0], some (52, true)⟩, ⟨[(25, 52), (27, 54), (28, 55)], [], some (52, true)⟩, ⟨[(25, 52), (26, 53), (29, 56)], [], some (52, true)⟩, ⟨[(25, 52), (30, 57)], [], none⟩, ⟨[(31, 58)], [], none⟩]
    [(0, 27), (1, 28), (2, 29), (3, 30), (4, 31), (5, 32), (6, 33), (7, 34), (8, 35), (9, 36), (10, 37), (11, 38), (12, 39), (13, 40), (14, 41), (15, 42), (16, 43), (17, 44), (18, 45), (19, 46), (20, 47), (21, 48), (22, 49), (23, 50), (24, 51), (25, 52), (26, 53), (27, 54), (28, 55), (29, 56), (30, 57), (31, 58), (32, 8)] (by kernel_rfl) (by kernel_rfl) (by kernel_rfl) (by kernel_rfl) ?_ ?_ ?_
  · simp only [Gt.Monos]
    repeat' apply And.intro
    all_goals (first | exact trivial | exact Gt.Is.mono _ | exact RowIs.mono _ _ | exact NoneIs.mono)
  · simp only [Gt.Obs]
    repeat' apply And.intro
    all_goals try exact trivial
    all_goals (
      intro a w5 hg
      have hg' : Below w3.heap.size w3 w5 := hg
      simp only [Gt.Pre, Gt.Kept, Gt.Guarded, Gt.tys, List.getD_cons_zero, List.getD_cons_succ, Gt.Is, Nat.zero_add, Nat.reduceAdd]
      intros
      try (refine ⟨fun _ => ?_, fun hne => absurd (by assumption) hne⟩))
    all_goals (first
      | exact Gt.ok_move rfl (by assumption)
      | exact Gt.ok_assign rfl (by assumption)
      | exact Gt.ok_pick rfl (by assumption) (by rw [if_pos rfl]; assumption)
      | (exact Gt.ok_call (f := 7) rfl #[] (by kernel_rfl) (by simp) ((answers_any _ (HK.out.to hg')).mono fun e w6 h => ⟨_, h.1, h.2, rfl⟩))
      | (refine Gt.ok_call (f := 11) rfl #[.slice A 0 c, .slice A' M c'] (by kernel_rfl) ?_ ((msame' A c 0 [] A' c' M m r _ w3.heap.size rfl HM.out HR.out (HI.out.below hg') (HI'.out.below hg') HL.out).mono ?_)
         · simp [*]
           done
         rintro e w6 ⟨rfl, q6, rfl⟩
         exact ⟨_, rfl, Gw.Below.drewN (Below.refl _ w5) q6, rfl⟩)
      | (refine Gt.ok_call (f := 11) rfl #[.slice A 0 c, .slice AC 0 cC] (by kernel_rfl) ?_ ((msame' A c 0 [] AC cC 0 [] true _ w3.heap.size rfl HNC.out HZ.out (HI.out.below hg') (HIC.out.below hg') HL.out).mono ?_)
         · simp [*]
           done
         rintro e w6 ⟨rfl, q6, rfl⟩
         exact ⟨_, rfl, Gw.Below.drewN (Below.refl _ w5) q6, rfl⟩)
      | (have k5 := conv_sl (P := Tryd.prog) (HI.out.below hg').sl Tryd.underlying22 Tryd.underlying5 Tryd.underlying9 c
         rw [List.length_nil, ← HSG.out] at k5
         exact Gt.ok_convert rfl (by assumption) k5 rfl)
      | (have k5 := conv_sl (P := Tryd.prog) (HI'.out.below hg').sl Tryd.underlying22 Tryd.underlying5 Tryd.underlying9 c'
         rw [← HM.out, ← HTU.out] at k5
         exact Gt.ok_convert rfl (by assumption) k5 rfl)
      | (refine Gt.ok_runW (v := .slice (some ⟨w5.heap.size, 0, none⟩) 0 0) (w' := w5.alloc (.cells #[] 5)) ?_ ((Below.refl _ w5).alloc (Nat.le_refl _) _) ⟨_, rfl⟩
         simp only [execOp, List.map_toArray, List.map_nil]
         go_simp
         done)
      | (rename_i h54 h55 _
         obtain ⟨g5, e54⟩ := h54
         obtain ⟨A6, c6, w6, hrun6, hI6, hB6⟩ := run_app0 (P := Tryd.prog) (w := w5) 22 22 5 i0 _ Tryd.underlying22 hi0 hz0 hz1 hz2 g5 A 0 c [] (rfl) ((HI.out.below hg').sl.more hg'.size) HL.out
         exact ok_app rfl e54 h55 hrun6 hB6 ⟨A6, c6, rfl, hI6⟩)
      | (rename_i h56 _
         obtain ⟨A6, c6, e56, hI6⟩ := h56
         refine Gt.ok_call (f := 11) rfl #[.slice A 0 c, .slice A6 0 c6] (by kernel_rfl) ?_ ((msame' A c 0 [] A6 c6 0 [] true _ w5.heap.size (rfl) (rfl) (decide_eq_true rfl) ((HI.out.below hg').more hg'.size) hI6 HL.out).mono ?_)
         · simp [*]
           done
         rintro e w6 ⟨rfl, q6, rfl⟩
         exact ⟨_, rfl, Gw.Below.drewN (Below.refl _ w5) q6, rfl⟩)
      | (exact ⟨fun h => absurd (show Value.bool false = Value.bool true from h.symm.trans (by assumption)) (by intro h; cases h), fun _ => trivial⟩)
      | (exact Gt.ok_pick (b := true) rfl (by assumption) (by rw [if_pos rfl]; rfl))
      | (refine Gt.ok_run ?_ rfl
         simp only [execOp, resolve, List.map_toArray, List.map_cons, List.map_nil, *]
         go_simp
         done))
  · intro a w5 hg
    have hg' : Below w3.heap.size w3 w5 := hg
    simp only [Gt.Pre, Gt.tys, List.getD_cons_zero, List.getD_cons_succ, Gt.Is]
    intro h0 h1 h2 h3 h4 h5 h6 h7 h8 h9 h10 h11 h12 h13 h14 h15 h16 h17 h18 h19 h20 h21 h22 h23 h24 h25 h26 h27 h28 h29 h30 h31 h32
    obtain ⟨g27, e27⟩ := h27
    obtain ⟨A29, c29, e29, _⟩ := h29
    show K _ _
    refine hK _ _ ?_
    simp only [Gt.puts, List.foldl_cons, List.foldl_nil, h0, h1, h2, h3, h4, h5, h6, h7, h8, h9, h10, h11, h12, h13, h14, h15, h16, h17, h18, h19, h20, h21, h22, h23, h24, h25, h26, e27, h28, e29, h30, h31, h32]
    simp only [Act.put, List.setIfInBounds_toArray, List.set_cons_zero, List.set_cons_succ]
    go_wp2
    go_ret
    exact ⟨rfl, HB3.out.trans (hg'.mono HB3.out.size)⟩
theorem walk (A : Option Addr) (c : Nat) (l : List Nat) (A' : Option Addr) (c' : Nat) (m : List Nat) (a2 a3 : Int) (w : World) (hI : In w w.heap.size A c l) (hs : c ≤ 140737488351232) (hI' : In w w.heap.size A' c' m) (_hs' : c' ≤ 140737488351232) (w2 : (Lit.int .u8 a2).wf = true) (w3 : (Lit.int .u8 a3).wf = true) (hT : KT w) :
    Calls Tryd.prog 5 #[.slice A l.length c, .slice A' m.length c', .int .u8 a2, .int .u8 a3] w fun e w' => e = .returned (.bool true) ∧ Below w.heap.size w w' := by
  obtain ⟨h0, h0'⟩ := bounds_u8 w2
  obtain ⟨h1, h1'⟩ := bounds_u8 w3
  obtain ⟨a, rfl⟩ := Int.eq_ofNat_of_zero_le h0
  obtain ⟨t, rfl⟩ := Int.eq_ofNat_of_zero_le h1
  by_cases hl : l = []
  · subst hl
    exact walk_none A c A' c' m a t w hI hI' hT
  · exact walk_some A c l A' c' m a t (by omega) (by omega) (List.length_pos_iff.2 hl) w hI hs hI' hT

theorem gTab : Tryd.prog.globalNamed "shamrock/sha.roundWords" = some 0 := by kernel_rfl
theorem gTabType : (Tryd.prog.globals[0]?).map (·.type) = some 42 := by kernel_rfl
theorem cellsT : Tryd.prog.cellsOf 42 = 64 := by kernel_rfl
theorem cellsE : Tryd.prog.cellsOf 35 = 1 := by kernel_rfl
theorem table {W : World} (h : laidMetH Tryd.prog Rows.macSameRow.laid W) : Lib.TabIs Tryd.prog W "shamrock/sha.roundWords" .u32 [1116352408, 1899447441, 3049323471, 3921009573, 961987163, 1508970993, 2453635748, 2870763221, 3624381080, 310598401, 607225278, 1426881987, 1925078388, 2162078206, 2614888103, 3248222580, 3835390401, 4022224774, 264347078, 604807628, 770255983, 1249150122, 1555081692, 1996064986, 2554220882, 2821834349, 2952996808, 3210313671, 3336571891, 3584528711, 113926993, 338241895, 666307205, 773529912, 1294757372, 1396182291, 1695183700, 1986661051, 2177026350, 2456956037, 2730485921, 2820302411, 3259730800, 3345764771, 3516065817, 3600352804, 4094571909, 275423344, 430227734, 506948616, 659060556, 883997877, 958139571, 1322822218, 1537002063, 1747873779, 1955562222, 2024104815, 2227730452, 2361852424, 2428436474, 2756734187, 3204031479, 3329325298] :=
  Lib.tabIs_of_head (rest := []) gTab gTabType Tryd.underlying42 Tryd.underlying35 cellsE cellsT h
/-- The table's cells, as the walks ask them. -/
theorem tabK {W : World} (h : laidMetH Tryd.prog Rows.macSameRow.laid W) : KT W := fun t ht => by
  rw [(table h).cell gTab t ht]
  have hall : ∀ t, t < 64 → ([1116352408, 1899447441, 3049323471, 3921009573, 961987163, 1508970993, 2453635748, 2870763221, 3624381080, 310598401, 607225278, 1426881987, 1925078388, 2162078206, 2614888103, 3248222580, 3835390401, 4022224774, 264347078, 604807628, 770255983, 1249150122, 1555081692, 1996064986, 2554220882, 2821834349, 2952996808, 3210313671, 3336571891, 3584528711, 113926993, 338241895, 666307205, 773529912, 1294757372, 1396182291, 1695183700, 1986661051, 2177026350, 2456956037, 2730485921, 2820302411, 3259730800, 3345764771, 3516065817, 3600352804, 4094571909, 275423344, 430227734, 506948616, 659060556, 883997877, 958139571, 1322822218, 1537002063, 1747873779, 1955562222, 2024104815, 2227730452, 2361852424, 2428436474, 2756734187, 3204031479, 3329325298] : List Int).getD t 0 = (Pol.co Sh.kk t : Int) := by decide +kernel
  rw [hall t ht]
set_option maxRecDepth 100000 in
theorem contract (H : Type) (enc : TypeId × Value → H) (W : World) (base : Nat) (args : Array Value) (ds gs : List (DataW H)) (before : List MemPlace)
    (hval0 : ∀ (j : Nat) t v, Tryd.f5.params[j]? = some t → args[j]? = some v → Value.okWide Tryd.prog W .any base t v)
    (hW : DataW.Whole enc Tryd.prog Tryd.f5.params.toList Rows.macSameSpec.vars false W args.toList ds gs before)
    (hsz0 : (DataW.weightsEach Tryd.prog (Tryd.f5.params.toList ++ Rows.macSameSpec.plain.varTypes Tryd.prog) (ds ++ gs)).all (· ≤ reachBytes) = true) (hL : laidMetH Tryd.prog Rows.macSameRow.laid W) :
    Calls Tryd.prog 5 args W fun e W' => ∃ v, e = .returned v ∧ Rows.macSameSpec.post enc Tryd.prog Tryd.f5 false true false false W args v W' := by
  have hval : ∀ (j : Nat) t v, Tryd.f5.params[j]? = some t → args[j]? = some v → Value.okWide Tryd.prog W .any base t v := hval0
  have hW' := hW
  obtain ⟨p, q, hA0, hV, rfl, _hfz, _hnd⟩ := hW
  have hA : DataW.TrodAll enc Tryd.prog W 0 (fun _ => true) true Tryd.f5.params.toList args.toList ds p := hA0
  have hsz : (DataW.weightsEach Tryd.prog (Tryd.f5.params.toList ++ Rows.macSameSpec.plain.varTypes Tryd.prog) (ds ++ gs)).all (· ≤ reachBytes) = true := hsz0
  rw [Tryd.params5] at hA hval hsz
  obtain ⟨v0, vs0, d0, ds0, p0, q0, hargs, rfl, rfl, h0, r0⟩ := trodAll_cons hA
  obtain ⟨v1, vs1, d1, ds1, p1, q1, rfl, rfl, rfl, h1, r1⟩ := trodAll_cons r0
  obtain ⟨v2, vs2, d2, ds2, p2, q2, rfl, rfl, rfl, h2, r2⟩ := trodAll_cons r1
  obtain ⟨v3, vs3, d3, ds3, p3, q3, rfl, rfl, rfl, h3, r3⟩ := trodAll_cons r2
  obtain ⟨rfl, rfl, rfl⟩ := trodAll_nil r3
  obtain rfl : args = #[v0, v1, v2, v3] := by cases args; simp_all
  obtain ⟨rfl, rfl⟩ := trodVars_none hV
  have k0 := h0
  have lt0 : ∀ x ∈ p0, x.block < W.heap.size := by obtain ⟨m, hm⟩ := k0; exact DataW.trod_lt m _ _ _ hm
  obtain ⟨A0, c0, l0, rfl, w0, sz0⟩ := open_bytes Tryd.underlying22 Tryd.underlying5 (by kernel_rfl) (hval 0 22 v0 rfl rfl) h0
  have s0 := sized_bytes hsz (j := 0) (t := 22) (e := 5) rfl rfl Tryd.underlying22 (by kernel_rfl) sz0
  have k1 := h1
  have lt1 : ∀ x ∈ p1, x.block < W.heap.size := by obtain ⟨m, hm⟩ := k1; exact DataW.trod_lt m _ _ _ hm
  obtain ⟨A1, c1, l1, rfl, w1, sz1⟩ := open_bytes Tryd.underlying22 Tryd.underlying5 (by kernel_rfl) (hval 1 22 v1 rfl rfl) h1
  have s1 := sized_bytes hsz (j := 1) (t := 22) (e := 5) rfl rfl Tryd.underlying22 (by kernel_rfl) sz1
  obtain ⟨a2, rfl, rfl, rfl, w2⟩ := open_int Tryd.underlying5 (hval 2 5 v2 rfl rfl) h2
  obtain ⟨a3, rfl, rfl, rfl, w3⟩ := open_int Tryd.underlying5 (hval 3 5 v3 rfl rfl) h3
  have hT := tabK hL
  clear hA0 hval0 hsz0 hsz hL
  refine (walk A0 c0 l0 A1 c1 l1 a2 a3 W w0 s0 w1 s1 w2 w3 hT).mono fun e W' ⟨he, bel⟩ => ?_
  subst he
  exact ⟨_, rfl, _, _, _, [], _, [], hW', trodAll_mk1 (shut_bool Tryd.underlying4 _), (trodAll_cons_mk (Below.trod laidOut (by kernel_rfl) (of_decide_eq_true (by kernel_rfl)) k0 bel lt0) (trodAll_cons_mk (Below.trod laidOut (by kernel_rfl) (of_decide_eq_true (by kernel_rfl)) k1 bel lt1) (trodAll_cons_mk (shut_int Tryd.underlying5 w2) (trodAll_cons_mk (shut_int Tryd.underlying5 w3) trodAll_mk0)))), rfl, bel.frame _, fun h => by cases h⟩
noncomputable def laidWorld (os : Os) : World :=
  { World.holding Tryd.prog os ⟨#[], #[], []⟩ with heap := (World.holding Tryd.prog os ⟨#[], #[], []⟩).heap.modify 0 fun
      | .cells _ t frozen => .cells #[.int .u32 1116352408, .int .u32 1899447441, .int .u32 3049323471, .int .u32 3921009573, .int .u32 961987163, .int .u32 1508970993, .int .u32 2453635748, .int .u32 2870763221, .int .u32 3624381080, .int .u32 310598401, .int .u32 607225278, .int .u32 1426881987, .int .u32 1925078388, .int .u32 2162078206, .int .u32 2614888103, .int .u32 3248222580, .int .u32 3835390401, .int .u32 4022224774, .int .u32 264347078, .int .u32 604807628, .int .u32 770255983, .int .u32 1249150122, .int .u32 1555081692, .int .u32 1996064986, .int .u32 2554220882, .int .u32 2821834349, .int .u32 2952996808, .int .u32 3210313671, .int .u32 3336571891, .int .u32 3584528711, .int .u32 113926993, .int .u32 338241895, .int .u32 666307205, .int .u32 773529912, .int .u32 1294757372, .int .u32 1396182291, .int .u32 1695183700, .int .u32 1986661051, .int .u32 2177026350, .int .u32 2456956037, .int .u32 2730485921, .int .u32 2820302411, .int .u32 3259730800, .int .u32 3345764771, .int .u32 3516065817, .int .u32 3600352804, .int .u32 4094571909, .int .u32 275423344, .int .u32 430227734, .int .u32 506948616, .int .u32 659060556, .int .u32 883997877, .int .u32 958139571, .int .u32 1322822218, .int .u32 1537002063, .int .u32 1747873779, .int .u32 1955562222, .int .u32 2024104815, .int .u32 2227730452, .int .u32 2361852424, .int .u32 2428436474, .int .u32 2756734187, .int .u32 3204031479, .int .u32 3329325298] t frozen
      | o => o }
set_option maxRecDepth 100000 in
theorem laid_met (os : Os) : laidMet Tryd.prog Rows.macSameRow.laid ((laidWorld os).forCall (fun _ _ => 0) ⟨#[], #[.slice none 0 0, .slice none 0 0, .int .u8 0, .int .u8 0], []⟩).memory :=
  laidMet_of_run' 8 (by kernel_rfl) (by kernel_rfl)
theorem reads (os : Os) {H : Type} (enc : TypeId × Value → H) : ∃ places, DataW.whole enc Tryd.prog ((laidWorld os).forCall (fun _ _ => 0) ⟨#[], #[.slice none 0 0, .slice none 0 0, .int .u8 0, .int .u8 0], []⟩).memory Tryd.f5.params.toList Rows.macSameSpec.vars false (#[.slice none 0 0, .slice none 0 0, .int .u8 0, .int .u8 0] : Array Value).toList 8 = some ([.nil, .nil, .lit (.int .u8 0), .lit (.int .u8 0)], [], places) :=
  ⟨[], by kernel_rfl⟩
set_option maxRecDepth 100000 in
theorem lifted (os : Os) (started : os.Started) (H : Type) (enc : TypeId × Value → H) (F : Stop.Interp) :
    ReturnsInHanded {} Tryd.checked os 5 .any ((OpenSpec.ofChange Rows.macSameSpec).preRow enc Tryd.prog Tryd.f5 Rows.macSameRow.domain false Rows.macSameRow.laid) (((OpenSpec.ofChange Rows.macSameSpec).at F).post enc Tryd.prog Tryd.f5 false true false false) := by
  obtain ⟨places, hx⟩ := reads os enc
  refine returnsInHanded_of_row (C := Tryd.checked) (s := OpenSpec.ofChange Rows.macSameSpec) own started (by kernel_rfl) Tryd.func5
    (witness_row_at (enc := enc) (C := Tryd.checked) false (laidWorld os) #[.slice none 0 0, .slice none 0 0, .int .u8 0, .int .u8 0] rfl (by kernel_rfl) (by kernel_rfl) (by kernel_rfl)
      (OpenSpec.preRow_of_cond 8 hx (by kernel_rfl) (fun k hk => by cases hk) (by kernel_rfl) (laid_met os))) ?_
  intro W base args ds gs before hval hW _ _ hsz hL _ _
  exact contract H enc W base args ds gs before hval hW hsz hL
theorem said : Rows.MacSameSaid :=
  OpenClaim.holds_of_cond 5 Tryd.f5 rfl rfl rfl rfl rfl rfl rfl ⟨rfl, rfl, rfl, rfl, rfl⟩ rfl rfl rfl rfl rfl (by kernel_rfl) Tryd.func5 (by kernel_rfl)
    (of_decide_eq_true (by kernel_rfl)) (by unfold Func.isWrapper; first | (rw [if_pos (by decide +kernel)]; kernel_rfl) | (rw [if_neg (by decide +kernel)]; exact ⟨rfl, rfl⟩))
    (fun os started H enc _ F => by rw [OpenClaim.pre_eq_preRow]; exact lifted os started H enc F)
theorem plain (f : FuncId) (fn : Func) (hf : Tryd.pinned.checked.prog.funcNamed "shamrock/shamrocklaw07.MacSame" = some f) (hfn : Tryd.pinned.checked.prog.funcs[f]? = some fn) :
    false = Tryd.pinned.checked.prog.looks [] ∧ ∀ (j : Nat) t, fn.params[j]? = some t → Tryd.pinned.checked.prog.wantsStandIn t = false := by
  obtain rfl : f = 5 := Option.some.inj ((show Tryd.prog.funcNamed "shamrock/shamrocklaw07.MacSame" = some 5 by kernel_rfl).symm.trans hf) |>.symm
  obtain rfl : fn = Tryd.f5 := (Option.some.inj (Tryd.func5.symm.trans hfn)).symm
  refine ⟨by kernel_rfl, fun j t ht => ?_⟩
  rw [Tryd.params5] at ht
  have hm : t ∈ [22, 22, 5, 5] := by simpa using Array.mem_of_getElem? ht
  have hall : ([22, 22, 5, 5].all fun u => !Tryd.prog.wantsStandIn u) = true := by kernel_rfl
  exact (show Tryd.prog.wantsStandIn t = false by simpa using List.all_eq_true.1 hall t hm)
theorem card : Rows.MacSameCardSaid :=
  Claim7.holds_tied_plain_at .later [] _ _ _ _ said (fun _ h => by cases h) (by kernel_rfl) (fun _ h => by cases h) macSame_row_tie rfl ⟨rfl, rfl⟩ (by kernel_rfl) rfl plain (by kernel_rfl)

end Go.Proofs.YtfemcofjhcanhaaDoor.macSame
namespace Go.Proofs.YtfemcofjhcanhaaDoor
/-- The statement. -/
theorem macSame_holds : Rows.MacSameCardSaid := macSame.card
#print axioms macSame_holds
end Go.Proofs.YtfemcofjhcanhaaDoor

