/- For every input DealShares returns true, and every argument reads behind the call as it did before: no condition. -/
import Derived.ProofKit
import Derived.OpenShut
import Derived.SizedLaws
import Derived.ChangeOld
import Derived.Carry
import Derived.Test.YtaknffdokkfmgaaRows
import Derived.Test.YtaknffdokkfmgaaJ2
import Derived.Test.YtaknffdokkfmgaaJ5
import Derived.Test.YtaknffdokkfmgaaJ9
import Derived.Test.YtaknffdokkfmgaaJ14
namespace Go.Proofs.Ytaknffdokkfmgaa.dealShares
open Go.ChangeShapes Go.WideShapes Go.ChangeAt Go.RowKit Go.Shelf Gw Pol

theorem own : ownKnob Try.prog.godebug = none := by kernel_rfl
theorem laidOut : laidOutB Try.prog = true := by kernel_rfl
theorem polL_len {n k t : Nat} {d rnd : List Nat} {q C : Nat} (h : C * t ≤ rnd.length) (hq : q < C) (htk : t + k ≤ 255) : (polL n k t d rnd q).length ≤ 4096 := by
  have h1 := timL_small (fac := rt (secL n k)) h hq
  have h2 := thr_small (secL n k) (Sp.col d k q)
  rw [(rt_top _).1] at h1
  rw [secL_len] at h1 h2
  have h3 := tr_len (add (timL (rt (secL n k)) rnd t q) (thr (secL n k) (Sp.col d k q)))
  have h4 := add_len (timL (rt (secL n k)) rnd t q) (thr (secL n k) (Sp.col d k q))
  unfold polL
  omega
set_option maxRecDepth 100000 in
set_option maxHeartbeats 4000000 in
theorem side_yes (n t k e r : Nat) (h1 : 1 ≤ t) (h2 : 1 ≤ k) (h5 : t + k + 2 * e ≤ n) (h6 : n + k ≤ 255) (hg0 : goodB n t k e r = true) (hn40 : n ≤ 40) (A1 : Option Addr) (c1 N : Nat) (l1 : List Nat) (A2 : Option Addr) (c2 M : Nat) (l2 : List Nat) (w : World) (hN : N = l1.length) (hN60 : N ≤ 60) (hM : M = l2.length) (hMb : M ≤ 140737488351232) (w1 : In w w.heap.size A1 c1 l1) (w2 : In w w.heap.size A2 c2 l2) (C : Nat) (hC : C = Sp.cnt N k) (hlen : l2.length = t * C) :
    Calls Try.prog 5 #[pv n t k e r, .slice A1 N c1, .slice A2 M c2] w fun e w' => e = .returned (.bool true) ∧ Below w.heap.size w w' := by
  have hpb1 := Pbx.new w 23 n t k e r
  have hb1 : Below w.heap.size w (w.alloc (.cells #[.int .i64 (n : Int), .int .i64 (t : Int), .int .i64 (k : Int), .int .i64 (e : Int), .int .i64 (r : Int)] 23)) := (Below.refl _ w).alloc (Nat.le_refl _) _
  have hCN : C ≤ N := by rw [hC]; exact Sp.cnt_le N k
  obtain ⟨S, hS⟩ : ∃ S, S = t * C := ⟨_, rfl⟩
  have eS : (t : Int) * (C : Int) = (S : Int) := by rw [hS]; simp
  have hSb : S ≤ 255 * 60 := by rw [hS]; exact Nat.mul_le_mul (by omega) (by omega)
  have eW : IntKind.i64.wrap (S : Int) = (S : Int) := by rw [IntKind.wrap_i64]; omega
  have HMS := Lib.hid (show (M : Int) = (S : Int) by rw [← hM, ← hS] at hlen; omega)
  have HPLN := Lib.hid (fun i hi => polL_len (n := n) (k := k) (t := t) (d := l1) (rnd := l2) (q := i) (C := C) (by rw [hlen, Nat.mul_comm]; exact Nat.le_refl _) hi (by omega))
  have HN := Lib.hid hN
  have HM := Lib.hid hM
  have HC := Lib.hid hC
  have HLEN := Lib.hid hlen
  clear hN hM hC hlen hS
  have HG := Lib.hid (rgood_any n t k e r (w.alloc (.cells #[.int .i64 (n : Int), .int .i64 (t : Int), .int .i64 (k : Int), .int .i64 (e : Int), .int .i64 (r : Int)] 23)))
  rw [hg0] at HG
  go_enter Try.func5, Try.ntmps5
  go_wp2_with fail
  refine HG.out.mono ?_
  rintro _ w2' ⟨rfl, hb2⟩
  have HPB := Lib.hid (hpb1.below hb2 hpb1.lt)
  have HPL := Lib.hid HPB.out.lt
  have HB2 := Lib.hid (hb1.trans (hb2.mono hb1.size))
  have HI1 := Lib.hid ((w1.below HB2.out).more HB2.out.size)
  have HI2 := Lib.hid ((w2.below HB2.out).more HB2.out.size)
  have z0 := HPB.out.c0
  clear hpb1 hb1 hb2 HG w1 w2
  obtain ⟨w2, rfl⟩ : ∃ w2, w2 = w2' := ⟨_, rfl⟩
  go_wp2
  clear z0
  rename_i K1 hK1
  refine Gt.regionA [FIs, Gt.Is (pv (n : Int) (t : Int) (k : Int) (e : Int) (r : Int)), Gt.Is (.slice A1 N c1), Gt.Is (.slice A2 M c2), TIs n (shRow (polL n k t l1 l2) C), TIs n (shRow (polL n k t l1 l2) C), MIs n (shRow (polL n k t l1 l2) C), Gt.Is (.bool true), MIs n (shRow (polL n k t l1 l2) C), Gt.Is (.bool true)] 66
    [⟨[], [], none⟩, ⟨[], [3], none⟩, ⟨[], [1], none⟩, ⟨[], [2], none⟩, ⟨[(0, 24), (1, 25), (2, 26), (3, 27)], [], none⟩, ⟨[(4, 28)], [], none⟩, ⟨[(5, 23)], [], none⟩, ⟨[(5, 23)], [], none⟩, ⟨[(6, 29)], [], none⟩, ⟨[(7, 30)], [], none⟩]
    [(0, 24), (1, 25), (2, 26), (3, 27), (4, 28), (5, 23), (6, 29), (7, 30), (8, 7), (9, 8)] (by kernel_rfl) (by kernel_rfl) (by kernel_rfl) (by kernel_rfl) ?_ ?_ ?_
  · simp only [Gt.Monos]
    repeat' apply And.intro
    all_goals (first | exact trivial | exact Gt.Is.mono _ | exact OIs.mono _ _ _ | exact NIs.mono _ _ | exact FIs.mono | exact MIs.mono _ _ | exact TIs.mono _ _ | exact ZIs.mono | exact EIs.mono | exact LIs.mono _ | exact SIs.mono _ _ | exact GIs.mono _ _ _)
  · simp only [Gt.Obs]
    repeat' apply And.intro
    all_goals try exact trivial
    all_goals (
      intro a w5 hg
      have hg' : Below w2.heap.size w2 w5 := hg
      simp only [Gt.Pre, Gt.Kept, Gt.Guarded, Gt.tys, List.getD_cons_zero, List.getD_cons_succ, Gt.Is, Nat.zero_add, Nat.reduceAdd]
      intros
      try (refine ⟨fun _ => ?_, fun hne => absurd (by assumption) hne⟩))
    all_goals (first
      | exact Gt.ok_move rfl (by assumption)
      | exact Gt.ok_assign rfl (by assumption)
      | exact Gt.ok_pick rfl (by assumption) (by rw [if_pos rfl]; assumption)
      | (refine Gt.ok_call (f := 21) rfl #[] (by kernel_rfl) (by simp) ((new_any _).mono ?_)
         rintro e w6 ⟨rfl, hF6, hb6⟩
         exact ⟨_, rfl, hb6, _, rfl, hF6⟩)
      | (exact Gt.ok_load rfl (by assumption) (HPB.out.below hg' HPL.out).load rfl)
      | (obtain ⟨b6, hv6, hF6⟩ : FIs (a.eval (.tmp 24)) w5 := by assumption
         refine Gt.ok_call (f := 20) rfl #[.pointer (some ⟨b6, 0, none⟩), pv (n : Int) (t : Int) (k : Int) (e : Int) (r : Int), .slice A1 N c1, .slice A2 M c2] (by kernel_rfl) (by simp [*]) ((dshare_yes n t k e r hg0 b6 A1 A2 c1 c2 N M C l1 l2 HN.out HM.out w5 hF6 ((HI1.out.below hg').more hg'.size) ((HI2.out.below hg').more hg'.size) HC.out HLEN.out (by omega)).mono ?_)
         rintro e w6 ⟨A9, c9, pa9, cp9, rfl, hM9, hb9⟩
         exact ⟨_, rfl, hb9, A9, c9, pa9, cp9, rfl, hM9⟩)
      | (obtain ⟨A6, c6, pa6, cp6, hv6, hM6⟩ : TIs n (shRow (polL n k t l1 l2) C) (a.eval (.tmp 23)) w5 := by assumption
         refine Gt.ok_run (v := .slice A6 n c6) ?_ ⟨A6, c6, pa6, cp6, rfl, hM6⟩
         simp only [execOp, hv6]
         go_simp
         done)
      | (obtain ⟨A6, c6, pa6, cp6, hv6, hM6⟩ : TIs n (shRow (polL n k t l1 l2) C) (a.eval (.tmp 23)) w5 := by assumption
         refine Gt.ok_run (v := .bool true) ?_ rfl
         simp only [execOp, hv6]
         go_simp
         done)
      | (refine Gt.ok_run ?_ rfl
         simp only [execOp, *]
         go_simp
         done))
  · intro a w5 hg
    have hg' : Below w2.heap.size w2 w5 := hg
    simp only [Gt.Pre, Gt.tys, List.getD_cons_zero, List.getD_cons_succ, Gt.Is]
    intro h0 h1 h2 h3 h4 h5 h6 h7 h8 h9
    show K1 _ _
    refine hK1 _ _ ?_
    obtain ⟨A9, c9, pa9, cp9, h8, hM9⟩ := h8
    obtain ⟨_, _, _, _, h6, _⟩ := h6
    obtain ⟨_, h0, _⟩ := h0
    simp only [Gt.puts, List.foldl_cons, List.foldl_nil, h0, h1, h2, h3, h6, h7, h8, h9]
    simp only [Act.put, List.setIfInBounds_toArray, List.set_cons_zero, List.set_cons_succ]
    have HB3 := Lib.hid (HB2.out.trans (hg'.mono HB2.out.size))
    have HB23 := Lib.hid hg'
    have HPB2 := Lib.hid (HPB.out.below hg' HPL.out)
    have HPL2 := Lib.hid HPB2.out.lt
    have HI1b := Lib.hid ((HI1.out.below hg').more hg'.size)
    have HM9a := Lib.hid hM9
    clear hM9
    clear h0 h1 h2 h3 h4 h5 h6 h7 h8 h9
    clear hg' hg
    obtain ⟨w3, rfl⟩ : ∃ w3, w3 = w5 := ⟨_, rfl⟩
    go_wp2
    rename_i K2 hK2
    refine Gt.regionA [Gt.Is (.slice A2 M c2), Gt.Is (.int .i64 (M : Int)), Gt.Is (.pointer (some ⟨w.heap.size, 1, none⟩)), Gt.Is (.int .i64 (t : Int)), Gt.Is (.slice A1 N c1), Gt.Is (.pointer (some ⟨w.heap.size, 2, none⟩)), Gt.Is (.int .i64 (k : Int)), LIs C, Gt.Is (.int .i64 (C : Int)), Gt.Is (.int .i64 (S : Int)), Gt.Is (.bool false)] 66
      [⟨[], [2], none⟩, ⟨[(0, 31)], [], none⟩, ⟨[], [3], none⟩, ⟨[(2, 33)], [], none⟩, ⟨[], [1], none⟩, ⟨[], [3], none⟩, ⟨[(5, 36)], [], none⟩, ⟨[(4, 35), (6, 37)], [], none⟩, ⟨[(7, 38)], [], none⟩, ⟨[(3, 34), (8, 39)], [], none⟩, ⟨[(1, 32), (9, 40)], [], none⟩]
      [(0, 31), (1, 32), (2, 33), (3, 34), (4, 35), (5, 36), (6, 37), (7, 38), (8, 39), (9, 40), (10, 41)] (by kernel_rfl) (by kernel_rfl) (by kernel_rfl) (by kernel_rfl) ?_ ?_ ?_
    · simp only [Gt.Monos]
      repeat' apply And.intro
      all_goals (first | exact trivial | exact Gt.Is.mono _ | exact OIs.mono _ _ _ | exact NIs.mono _ _ | exact FIs.mono | exact MIs.mono _ _ | exact TIs.mono _ _ | exact ZIs.mono | exact EIs.mono | exact LIs.mono _ | exact SIs.mono _ _ | exact GIs.mono _ _ _)
    · simp only [Gt.Obs]
      repeat' apply And.intro
      all_goals try exact trivial
      all_goals (
        intro a w5 hg
        have hg' : Below w3.heap.size w3 w5 := hg
        simp only [Gt.Pre, Gt.Kept, Gt.Guarded, Gt.tys, List.getD_cons_zero, List.getD_cons_succ, Gt.Is, Nat.zero_add, Nat.reduceAdd]
        intros
        try (refine ⟨fun _ => ?_, fun hne => absurd (by assumption) hne⟩))
      all_goals (first
        | exact Gt.ok_move rfl (by assumption)
        | exact Gt.ok_assign rfl (by assumption)
        | exact Gt.ok_pick rfl (by assumption) (by rw [if_pos rfl]; assumption)
        | (refine Gt.ok_call (f := 22) rfl #[.slice A1 N c1, .int .i64 (k : Int)] (by kernel_rfl) (by simp [*]) ((rsplit_any A1 c1 N k l1 w5 HN.out ((HI1b.out.below hg').more hg'.size) (by omega) (by omega) (by omega)).mono ?_)
           rintro e w6 ⟨v6, pa6, cp6, rfl, hG6⟩
           obtain ⟨A6, c6, rfl, _, _⟩ := hG6.shape
           exact ⟨_, rfl, hG6.bel, A6, c6, by rw [HC.out]⟩)
        | (obtain ⟨A6, c6, hv6⟩ : LIs C (a.eval (.tmp 38)) w5 := by assumption
           refine Gt.ok_run ?_ rfl
           simp only [execOp, resolve, List.map_toArray, List.map_cons, List.map_nil, hv6]
           go_simp
           done)
        | (have z5 := HPB2.out.below hg' HPL2.out
           have z50 := z5.c0
           have z51 := z5.c1
           have z52 := z5.c2
           refine Gt.ok_run ?_ rfl
           simp only [execOp, *]
           go_simp
           done)
        | (refine Gt.ok_run ?_ rfl
           simp only [execOp, resolve, List.map_toArray, List.map_cons, List.map_nil, *]
           go_simp
           done)
        | (refine Gt.ok_run ?_ rfl
           simp only [execOp, *]
           go_simp
           exact HMS.out))
    · intro a w5 hg
      have hg' : Below w3.heap.size w3 w5 := hg
      simp only [Gt.Pre, Gt.tys, List.getD_cons_zero, List.getD_cons_succ, Gt.Is]
      intro h0 h1 h2 h3 h4 h5 h6 h7 h8 h9 h10
      show K2 _ _
      refine hK2 _ _ ?_
      obtain ⟨_, _, h7⟩ := h7
      simp only [Gt.puts, List.foldl_cons, List.foldl_nil, h0, h1, h2, h3, h4, h5, h6, h7, h8, h9, h10]
      simp only [Act.put, List.setIfInBounds_toArray, List.set_cons_zero, List.set_cons_succ]
      have HB4 := Lib.hid (HB3.out.trans (hg'.mono HB3.out.size))
      have HB24 := Lib.hid (HB23.out.trans (hg'.mono HB23.out.size))
      clear h0 h1 h2 h3 h4 h5 h6 h7 h8 h9 h10
      have HI1c := Lib.hid ((HI1.out.below HB24.out).more HB24.out.size)
      have HI2c := Lib.hid ((HI2.out.below HB24.out).more HB24.out.size)
      have HM9 := Lib.hid ((HM9a.out.below hg').more hg'.size)
      have HPB3 := Lib.hid (HPB2.out.below hg' HPL2.out)
      have HPL3 := Lib.hid HPB3.out.lt
      clear HPB HPL HPB2 HPL2 HI1 HI2 HI1b HM9a
      have HPB := HPB3
      have HPL := HPL3
      clear HPB3 HPL3 hg' hg
      obtain ⟨w4, rfl⟩ : ∃ w4, w4 = w5 := ⟨_, rfl⟩
      go_wp2
      rename_i K3 hK3
      refine Gt.regionA [Gt.Is (.bool true), Gt.Is (.bool true), Gt.Is (.bool true), Gt.Is (.bool true), Gt.Is (.bool true), Gt.Is (.slice A9 n c9), Gt.Is (pv (n : Int) (t : Int) (k : Int) (e : Int) (r : Int)), Gt.Is (pv (n : Int) (t : Int) (k : Int) (e : Int) (r : Int)), Gt.Is (.slice A1 N c1), Gt.Is (.slice A2 M c2), MIs C (polL n k t l1 l2), MIs n (shRow (polL n k t l1 l2) C), Gt.Is (.bool true), Gt.Is (.bool true), Gt.Is (.bool true)] 66
        [⟨[], [], none⟩, ⟨[(0, 52)], [], none⟩, ⟨[(1, 53)], [8], some (53, true)⟩, ⟨[(1, 53), (2, 54)], [], none⟩, ⟨[(3, 55)], [], none⟩, ⟨[(4, 56)], [7], some (56, true)⟩, ⟨[(4, 56)], [3], some (56, true)⟩, ⟨[(4, 56)], [3], some (56, true)⟩, ⟨[(4, 56)], [1], some (56, true)⟩, ⟨[(4, 56)], [2], some (56, true)⟩, ⟨[(4, 56), (7, 59), (8, 60), (9, 61)], [], some (56, true)⟩, ⟨[(4, 56), (6, 58), (10, 62)], [], some (56, true)⟩, ⟨[(4, 56), (5, 57), (11, 63)], [], some (56, true)⟩, ⟨[(4, 56), (12, 64)], [], none⟩, ⟨[(13, 65)], [], none⟩]
        [(0, 52), (1, 53), (2, 54), (3, 55), (4, 56), (5, 57), (6, 58), (7, 59), (8, 60), (9, 61), (10, 62), (11, 63), (12, 64), (13, 65), (14, 6)] (by kernel_rfl) (by kernel_rfl) (by kernel_rfl) (by kernel_rfl) ?_ ?_ ?_
      · simp only [Gt.Monos]
        repeat' apply And.intro
        all_goals (first | exact trivial | exact Gt.Is.mono _ | exact OIs.mono _ _ _ | exact NIs.mono _ _ | exact FIs.mono | exact MIs.mono _ _ | exact TIs.mono _ _ | exact ZIs.mono | exact EIs.mono | exact LIs.mono _ | exact SIs.mono _ _ | exact GIs.mono _ _ _)
      · simp only [Gt.Obs]
        repeat' apply And.intro
        all_goals try exact trivial
        all_goals (
          intro a w5 hg
          have hg' : Below w4.heap.size w4 w5 := hg
          simp only [Gt.Pre, Gt.Kept, Gt.Guarded, Gt.tys, List.getD_cons_zero, List.getD_cons_succ, Gt.Is, Nat.zero_add, Nat.reduceAdd]
          intros
          try (refine ⟨fun _ => ?_, fun hne => absurd (by assumption) hne⟩))
        all_goals (first
          | exact Gt.ok_move rfl (by assumption)
          | exact Gt.ok_assign rfl (by assumption)
          | exact Gt.ok_pick rfl (by assumption) (by rw [if_pos rfl]; assumption)
          | (exact Gt.ok_call (f := 11) rfl #[] (by kernel_rfl) (by simp) ((answers_any _).mono fun e w6 h => ⟨_, h.1, h.2, rfl⟩))
          | (exact Gt.ok_load rfl (by assumption) (HPB.out.below hg' HPL.out).load rfl)
          | (refine Gt.ok_call (f := 25) rfl #[pv (n : Int) (t : Int) (k : Int) (e : Int) (r : Int), .slice A1 N c1, .slice A2 M c2] (by kernel_rfl) (by simp [*]) ((rpolys_any n t k e r (by omega) (by omega) (by omega) (by omega) A1 A2 c1 c2 N M l1 l2 HN.out HM.out w5 ((HI1c.out.below hg').more hg'.size) ((HI2c.out.below hg').more hg'.size) C HC.out (by rw [HLEN.out, Nat.mul_comm]; exact Nat.le_refl _) (by omega)).mono ?_)
             rintro e w6 ⟨A6, c6, pa6, cp6, rfl, hM6, hb6⟩
             exact ⟨_, rfl, hb6, A6, c6, pa6, cp6, rfl, hM6⟩)
          | (obtain ⟨A6, c6, pa6, cp6, hv6, hM6⟩ : MIs C (polL n k t l1 l2) (a.eval (.tmp 62)) w5 := by assumption
             refine Gt.ok_call (f := 24) rfl #[pv (n : Int) (t : Int) (k : Int) (e : Int) (r : Int), .slice A6 C c6] (by kernel_rfl) (by simp [*]) ((rshares_any n t k e r (by omega) A6 c6 C pa6 cp6 (polL n k t l1 l2) w5 hM6 (by omega) HPLN.out).mono ?_)
             rintro e w6 ⟨A7, c7, pa7, cp7, rfl, hM7, hb7⟩
             exact ⟨_, rfl, hb7, A7, c7, pa7, cp7, rfl, hM7⟩)
          | (obtain ⟨A6, c6, pa6, cp6, hv6, hM6⟩ : MIs n (shRow (polL n k t l1 l2) C) (a.eval (.tmp 63)) w5 := by assumption
             exact Gt.ok_call (f := 23) rfl #[.slice A9 n c9, .slice A6 n c6] (by kernel_rfl) (by simp [*]) ((rsame10 A9 A6 c9 c6 n pa9 pa6 cp9 cp6 _ _ w5 ((HM9.out.below hg').more hg'.size) hM6 (fun i _ => rfl) (by omega)).mono fun e w6 h => ⟨_, h.1, h.2, rfl⟩))
          | (refine Gt.ok_run ?_ rfl
             simp only [execOp, *]
             go_simp
             done))
      · intro a w5 hg
        have hg' : Below w4.heap.size w4 w5 := hg
        simp only [Gt.Pre, Gt.tys, List.getD_cons_zero, List.getD_cons_succ, Gt.Is]
        intro h0 h1 h2 h3 h4 h5 h6 h7 h8 h9 h10 h11 h12 h13 h14
        show K3 _ _
        refine hK3 _ _ ?_
        obtain ⟨_, _, _, _, h10, _⟩ := h10
        obtain ⟨_, _, _, _, h11, _⟩ := h11
        simp only [Gt.puts, List.foldl_cons, List.foldl_nil, h0, h1, h2, h3, h4, h5, h6, h7, h8, h9, h10, h11, h12, h13, h14]
        simp only [Act.put, List.setIfInBounds_toArray, List.set_cons_zero, List.set_cons_succ]
        have HB6 := Lib.hid (HB4.out.trans (hg'.mono HB4.out.size))
        clear h0 h1 h2 h3 h4 h5 h6 h7 h8 h9 h10 h11 h12 h13 h14
        go_wp2
        go_ret
        exact ⟨rfl, HB6.out⟩
      
    
set_option maxRecDepth 100000 in
set_option maxHeartbeats 4000000 in
theorem side_no (n t k e r : Nat) (_h1 : 1 ≤ t) (h2 : 1 ≤ k) (h5 : t + k + 2 * e ≤ n) (h6 : n + k ≤ 255) (hg0 : goodB n t k e r = true) (hn40 : n ≤ 40) (A1 : Option Addr) (c1 N : Nat) (l1 : List Nat) (A2 : Option Addr) (c2 M : Nat) (l2 : List Nat) (w : World) (hN : N = l1.length) (hN60 : N ≤ 60) (hM : M = l2.length) (hMb : M ≤ 140737488351232) (w1 : In w w.heap.size A1 c1 l1) (w2 : In w w.heap.size A2 c2 l2) (C : Nat) (hC : C = Sp.cnt N k) (hlen : l2.length ≠ t * C) :
    Calls Try.prog 5 #[pv n t k e r, .slice A1 N c1, .slice A2 M c2] w fun e w' => e = .returned (.bool true) ∧ Below w.heap.size w w' := by
  have hpb1 := Pbx.new w 23 n t k e r
  have hb1 : Below w.heap.size w (w.alloc (.cells #[.int .i64 (n : Int), .int .i64 (t : Int), .int .i64 (k : Int), .int .i64 (e : Int), .int .i64 (r : Int)] 23)) := (Below.refl _ w).alloc (Nat.le_refl _) _
  have hCN : C ≤ N := by rw [hC]; exact Sp.cnt_le N k
  obtain ⟨S, hS⟩ : ∃ S, S = t * C := ⟨_, rfl⟩
  have eS : (t : Int) * (C : Int) = (S : Int) := by rw [hS]; simp
  have hSb : S ≤ 255 * 60 := by rw [hS]; exact Nat.mul_le_mul (by omega) (by omega)
  have eW : IntKind.i64.wrap (S : Int) = (S : Int) := by rw [IntKind.wrap_i64]; omega
  have HMS := Lib.hid (show ¬ (M : Int) = (S : Int) by rw [← hM, ← hS] at hlen; omega)
  have HN := Lib.hid hN
  have HM := Lib.hid hM
  have HC := Lib.hid hC
  have HLEN := Lib.hid hlen
  clear hN hM hC hlen hS
  have HG := Lib.hid (rgood_any n t k e r (w.alloc (.cells #[.int .i64 (n : Int), .int .i64 (t : Int), .int .i64 (k : Int), .int .i64 (e : Int), .int .i64 (r : Int)] 23)))
  rw [hg0] at HG
  go_enter Try.func5, Try.ntmps5
  go_wp2_with fail
  refine HG.out.mono ?_
  rintro _ w2' ⟨rfl, hb2⟩
  have HPB := Lib.hid (hpb1.below hb2 hpb1.lt)
  have HPL := Lib.hid HPB.out.lt
  have HB2 := Lib.hid (hb1.trans (hb2.mono hb1.size))
  have HI1 := Lib.hid ((w1.below HB2.out).more HB2.out.size)
  have HI2 := Lib.hid ((w2.below HB2.out).more HB2.out.size)
  have z0 := HPB.out.c0
  clear hpb1 hb1 hb2 HG w1 w2
  obtain ⟨w2, rfl⟩ : ∃ w2, w2 = w2' := ⟨_, rfl⟩
  go_wp2
  clear z0
  rename_i K1 hK1
  refine Gt.regionA [FIs, Gt.Is (pv (n : Int) (t : Int) (k : Int) (e : Int) (r : Int)), Gt.Is (.slice A1 N c1), Gt.Is (.slice A2 M c2), ZIs, ZIs, EIs, Gt.Is (.bool false), EIs, Gt.Is (.bool false)] 66
    [⟨[], [], none⟩, ⟨[], [3], none⟩, ⟨[], [1], none⟩, ⟨[], [2], none⟩, ⟨[(0, 24), (1, 25), (2, 26), (3, 27)], [], none⟩, ⟨[(4, 28)], [], none⟩, ⟨[(5, 23)], [], none⟩, ⟨[(5, 23)], [], none⟩, ⟨[(6, 29)], [], none⟩, ⟨[(7, 30)], [], none⟩]
    [(0, 24), (1, 25), (2, 26), (3, 27), (4, 28), (5, 23), (6, 29), (7, 30), (8, 7), (9, 8)] (by kernel_rfl) (by kernel_rfl) (by kernel_rfl) (by kernel_rfl) ?_ ?_ ?_
  · simp only [Gt.Monos]
    repeat' apply And.intro
    all_goals (first | exact trivial | exact Gt.Is.mono _ | exact OIs.mono _ _ _ | exact NIs.mono _ _ | exact FIs.mono | exact MIs.mono _ _ | exact TIs.mono _ _ | exact ZIs.mono | exact EIs.mono | exact LIs.mono _ | exact SIs.mono _ _ | exact GIs.mono _ _ _)
  · simp only [Gt.Obs]
    repeat' apply And.intro
    all_goals try exact trivial
    all_goals (
      intro a w5 hg
      have hg' : Below w2.heap.size w2 w5 := hg
      simp only [Gt.Pre, Gt.Kept, Gt.Guarded, Gt.tys, List.getD_cons_zero, List.getD_cons_succ, Gt.Is, Nat.zero_add, Nat.reduceAdd]
      intros
      try (refine ⟨fun _ => ?_, fun hne => absurd (by assumption) hne⟩))
    all_goals (first
      | exact Gt.ok_move rfl (by assumption)
      | exact Gt.ok_assign rfl (by assumption)
      | exact Gt.ok_pick rfl (by assumption) (by rw [if_pos rfl]; assumption)
      | (refine Gt.ok_call (f := 21) rfl #[] (by kernel_rfl) (by simp) ((new_any _).mono ?_)
         rintro e w6 ⟨rfl, hF6, hb6⟩
         exact ⟨_, rfl, hb6, _, rfl, hF6⟩)
      | (exact Gt.ok_load rfl (by assumption) (HPB.out.below hg' HPL.out).load rfl)
      | (obtain ⟨b6, hv6, hF6⟩ : FIs (a.eval (.tmp 24)) w5 := by assumption
         refine Gt.ok_call (f := 20) rfl #[.pointer (some ⟨b6, 0, none⟩), pv (n : Int) (t : Int) (k : Int) (e : Int) (r : Int), .slice A1 N c1, .slice A2 M c2] (by kernel_rfl) (by simp [*]) ((dshare_no n t k e r hg0 b6 A1 A2 c1 c2 N M C l1 l2 HN.out HM.out w5 hF6 ((HI1.out.below hg').more hg'.size) ((HI2.out.below hg').more hg'.size) HC.out HLEN.out (by omega) (by omega)).mono ?_)
         rintro e w6 ⟨A9, c9, rfl, hb9⟩
         exact ⟨_, rfl, hb9, A9, c9, rfl⟩)
      | (obtain ⟨A6, c6, hv6⟩ : ZIs (a.eval (.tmp 23)) w5 := by assumption
         refine Gt.ok_run (v := .slice A6 0 c6) ?_ ⟨A6, c6, rfl⟩
         simp only [execOp, hv6]
         go_simp
         done)
      | (obtain ⟨A6, c6, hv6⟩ : ZIs (a.eval (.tmp 23)) w5 := by assumption
         refine Gt.ok_run (v := .bool false) ?_ rfl
         simp only [execOp, hv6]
         go_simp
         done)
      | (refine Gt.ok_run ?_ rfl
         simp only [execOp, *]
         go_simp
         done))
  · intro a w5 hg
    have hg' : Below w2.heap.size w2 w5 := hg
    simp only [Gt.Pre, Gt.tys, List.getD_cons_zero, List.getD_cons_succ, Gt.Is]
    intro h0 h1 h2 h3 h4 h5 h6 h7 h8 h9
    show K1 _ _
    refine hK1 _ _ ?_
    obtain ⟨A9, c9, h8⟩ := h8
    obtain ⟨_, _, h6⟩ := h6
    obtain ⟨_, h0, _⟩ := h0
    simp only [Gt.puts, List.foldl_cons, List.foldl_nil, h0, h1, h2, h3, h6, h7, h8, h9]
    simp only [Act.put, List.setIfInBounds_toArray, List.set_cons_zero, List.set_cons_succ]
    have HB3 := Lib.hid (HB2.out.trans (hg'.mono HB2.out.size))
    have HB23 := Lib.hid hg'
    have HPB2 := Lib.hid (HPB.out.below hg' HPL.out)
    have HPL2 := Lib.hid HPB2.out.lt
    have HI1b := Lib.hid ((HI1.out.below hg').more hg'.size)
    clear h0 h1 h2 h3 h4 h5 h6 h7 h8 h9
    clear hg' hg
    obtain ⟨w3, rfl⟩ : ∃ w3, w3 = w5 := ⟨_, rfl⟩
    go_wp2
    rename_i K2 hK2
    refine Gt.regionA [Gt.Is (.slice A2 M c2), Gt.Is (.int .i64 (M : Int)), Gt.Is (.pointer (some ⟨w.heap.size, 1, none⟩)), Gt.Is (.int .i64 (t : Int)), Gt.Is (.slice A1 N c1), Gt.Is (.pointer (some ⟨w.heap.size, 2, none⟩)), Gt.Is (.int .i64 (k : Int)), LIs C, Gt.Is (.int .i64 (C : Int)), Gt.Is (.int .i64 (S : Int)), Gt.Is (.bool true)] 66
      [⟨[], [2], none⟩, ⟨[(0, 31)], [], none⟩, ⟨[], [3], none⟩, ⟨[(2, 33)], [], none⟩, ⟨[], [1], none⟩, ⟨[], [3], none⟩, ⟨[(5, 36)], [], none⟩, ⟨[(4, 35), (6, 37)], [], none⟩, ⟨[(7, 38)], [], none⟩, ⟨[(3, 34), (8, 39)], [], none⟩, ⟨[(1, 32), (9, 40)], [], none⟩]
      [(0, 31), (1, 32), (2, 33), (3, 34), (4, 35), (5, 36), (6, 37), (7, 38), (8, 39), (9, 40), (10, 41)] (by kernel_rfl) (by kernel_rfl) (by kernel_rfl) (by kernel_rfl) ?_ ?_ ?_
    · simp only [Gt.Monos]
      repeat' apply And.intro
      all_goals (first | exact trivial | exact Gt.Is.mono _ | exact OIs.mono _ _ _ | exact NIs.mono _ _ | exact FIs.mono | exact MIs.mono _ _ | exact TIs.mono _ _ | exact ZIs.mono | exact EIs.mono | exact LIs.mono _ | exact SIs.mono _ _ | exact GIs.mono _ _ _)
    · simp only [Gt.Obs]
      repeat' apply And.intro
      all_goals try exact trivial
      all_goals (
        intro a w5 hg
        have hg' : Below w3.heap.size w3 w5 := hg
        simp only [Gt.Pre, Gt.Kept, Gt.Guarded, Gt.tys, List.getD_cons_zero, List.getD_cons_succ, Gt.Is, Nat.zero_add, Nat.reduceAdd]
        intros
        try (refine ⟨fun _ => ?_, fun hne => absurd (by assumption) hne⟩))
      all_goals (first
        | exact Gt.ok_move rfl (by assumption)
        | exact Gt.ok_assign rfl (by assumption)
        | exact Gt.ok_pick rfl (by assumption) (by rw [if_pos rfl]; assumption)
        | (refine Gt.ok_call (f := 22) rfl #[.slice A1 N c1, .int .i64 (k : Int)] (by kernel_rfl) (by simp [*]) ((rsplit_any A1 c1 N k l1 w5 HN.out ((HI1b.out.below hg').more hg'.size) (by omega) (by omega) (by omega)).mono ?_)
           rintro e w6 ⟨v6, pa6, cp6, rfl, hG6⟩
           obtain ⟨A6, c6, rfl, _, _⟩ := hG6.shape
           exact ⟨_, rfl, hG6.bel, A6, c6, by rw [HC.out]⟩)
        | (obtain ⟨A6, c6, hv6⟩ : LIs C (a.eval (.tmp 38)) w5 := by assumption
           refine Gt.ok_run ?_ rfl
           simp only [execOp, resolve, List.map_toArray, List.map_cons, List.map_nil, hv6]
           go_simp
           done)
        | (have z5 := HPB2.out.below hg' HPL2.out
           have z50 := z5.c0
           have z51 := z5.c1
           have z52 := z5.c2
           refine Gt.ok_run ?_ rfl
           simp only [execOp, *]
           go_simp
           done)
        | (refine Gt.ok_run ?_ rfl
           simp only [execOp, resolve, List.map_toArray, List.map_cons, List.map_nil, *]
           go_simp
           done)
        | (refine Gt.ok_run ?_ rfl
           simp only [execOp, *]
           go_simp
           exact HMS.out))
    · intro a w5 hg
      have hg' : Below w3.heap.size w3 w5 := hg
      simp only [Gt.Pre, Gt.tys, List.getD_cons_zero, List.getD_cons_succ, Gt.Is]
      intro h0 h1 h2 h3 h4 h5 h6 h7 h8 h9 h10
      show K2 _ _
      refine hK2 _ _ ?_
      obtain ⟨_, _, h7⟩ := h7
      simp only [Gt.puts, List.foldl_cons, List.foldl_nil, h0, h1, h2, h3, h4, h5, h6, h7, h8, h9, h10]
      simp only [Act.put, List.setIfInBounds_toArray, List.set_cons_zero, List.set_cons_succ]
      have HB4 := Lib.hid (HB3.out.trans (hg'.mono HB3.out.size))
      have HB24 := Lib.hid (HB23.out.trans (hg'.mono HB23.out.size))
      clear h0 h1 h2 h3 h4 h5 h6 h7 h8 h9 h10
      clear hg' hg
      go_wp2_with fail
      refine (answers_any _).mono ?_
      rintro e w6 ⟨rfl, hb6⟩
      go_wp2
      go_ret
      exact ⟨rfl, HB4.out.trans (hb6.mono HB4.out.size)⟩
    
set_option maxRecDepth 100000 in
set_option maxHeartbeats 1000000 in
theorem side_bad (a0 T0 K0 E0 R0 : Int) (A1 : Option Addr) (c1 N : Nat) (A2 : Option Addr) (c2 M : Nat) (w : World) (hNb : N ≤ 140737488351232) (hbad : goodB a0 T0 K0 E0 R0 = false ∨ 60 < N ∨ 40 < a0) :
    Calls Try.prog 5 #[pv a0 T0 K0 E0 R0, .slice A1 N c1, .slice A2 M c2] w fun e w' => e = .returned (.bool true) ∧ Below w.heap.size w w' := by
  have hpb1 := Pbx.new w 23 a0 T0 K0 E0 R0
  have hb1 : Below w.heap.size w (w.alloc (.cells #[.int .i64 a0, .int .i64 T0, .int .i64 K0, .int .i64 E0, .int .i64 R0] 23)) := (Below.refl _ w).alloc (Nat.le_refl _) _
  obtain ⟨gb, hgb⟩ : ∃ gb, gb = goodB a0 T0 K0 E0 R0 := ⟨_, rfl⟩
  have HG := Lib.hid (rgood_any a0 T0 K0 E0 R0 (w.alloc (.cells #[.int .i64 a0, .int .i64 T0, .int .i64 K0, .int .i64 E0, .int .i64 R0] 23)))
  rw [← hgb] at HG hbad
  clear hgb
  have go : ∀ (gb : Bool) , (gb = false ∨ 60 < N ∨ 40 < a0) → Calls Try.prog 13 #[pv a0 T0 K0 E0 R0] (w.alloc (.cells #[.int .i64 a0, .int .i64 T0, .int .i64 K0, .int .i64 E0, .int .i64 R0] 23)) (fun e w' => e = .returned (.bool gb) ∧ Below (w.alloc (.cells #[.int .i64 a0, .int .i64 T0, .int .i64 K0, .int .i64 E0, .int .i64 R0] 23)).heap.size (w.alloc (.cells #[.int .i64 a0, .int .i64 T0, .int .i64 K0, .int .i64 E0, .int .i64 R0] 23)) w') →
      Calls Try.prog 5 #[pv a0 T0 K0 E0 R0, .slice A1 N c1, .slice A2 M c2] w fun e w' => e = .returned (.bool true) ∧ Below w.heap.size w w' := fun gb hbad hG => by
    have HG := Lib.hid hG
    clear hG
    go_enter Try.func5, Try.ntmps5
    go_wp2_with fail
    refine HG.out.mono ?_
    rintro _ w2 ⟨rfl, hb2⟩
    have z0 := (hpb1.below hb2 hpb1.lt).c0
    have HB2 := Lib.hid (hb1.trans (hb2.mono hb1.size))
    clear hpb1 hb1 hb2 HG
    cases gb with
    | false =>
      clear hbad
      go_wp2_with fail
      refine (answers_any _).mono ?_
      rintro e w6 ⟨rfl, hb6⟩
      go_wp2
      go_ret
      exact ⟨rfl, HB2.out.trans (hb6.mono HB2.out.size)⟩
    | true =>
      by_cases hN : 60 < N
      · clear hbad
        go_wp2_with fail
        refine (answers_any _).mono ?_
        rintro e w6 ⟨rfl, hb6⟩
        go_wp2
        go_ret
        exact ⟨rfl, HB2.out.trans (hb6.mono HB2.out.size)⟩
      · have ha : 40 < a0 := by
          rcases hbad with h | h | h
          · cases h
          · omega
          · exact h
        clear hbad
        go_wp2_with fail
        refine (answers_any _).mono ?_
        rintro e w6 ⟨rfl, hb6⟩
        go_wp2
        go_ret
        exact ⟨rfl, HB2.out.trans (hb6.mono HB2.out.size)⟩
  exact go gb hbad HG.out
theorem walk (a0 T0 K0 E0 R0 : Int) (A1 : Option Addr) (c1 : Nat) (l1 : List Nat) (A2 : Option Addr) (c2 : Nat) (l2 : List Nat) (w : World) (_w0 : (Lit.int .i64 a0).wf = true ∧ (Lit.int .i64 T0).wf = true ∧ (Lit.int .i64 K0).wf = true ∧ (Lit.int .i64 E0).wf = true ∧ (Lit.int .i64 R0).wf = true) (w1 : In w w.heap.size A1 c1 l1) (s1 : c1 ≤ 140737488351232) (w2 : In w w.heap.size A2 c2 l2) (s2 : c2 ≤ 140737488351232) :
    Calls Try.prog 5 #[pv a0 T0 K0 E0 R0, .slice A1 l1.length c1, .slice A2 l2.length c2] w fun e w' => e = .returned (.bool true) ∧ Below w.heap.size w w' := by
  have hc1 := w1.cap
  have hc2 := w2.cap
  by_cases hbad : goodB a0 T0 K0 E0 R0 = false ∨ 60 < l1.length ∨ 40 < a0
  · exact side_bad a0 T0 K0 E0 R0 A1 c1 l1.length A2 c2 l2.length w (by omega) hbad
  · have hg : goodB a0 T0 K0 E0 R0 = true := by
      cases h : goodB a0 T0 K0 E0 R0 with
      | true => rfl
      | false => exact absurd (.inl h) hbad
    obtain ⟨n, t, k, e, r, rfl, rfl, rfl, rfl, rfl, h1, h2, h3, h4, h5, h6⟩ := goodB_nat hg
    have hN : l1.length ≤ 60 := by omega
    have hn : n ≤ 40 := by omega
    by_cases hlen : l2.length = t * Sp.cnt l1.length k
    · exact side_yes n t k e r h1 h2 h5 h6 hg hn A1 c1 _ l1 A2 c2 _ l2 w rfl hN rfl (by omega) w1 w2 _ rfl hlen
    · exact side_no n t k e r h1 h2 h5 h6 hg hn A1 c1 _ l1 A2 c2 _ l2 w rfl hN rfl (by omega) w1 w2 _ rfl hlen

set_option maxRecDepth 100000 in
theorem lifted (os : Os) (started : os.Started) (H : Type) (enc : TypeId × Value → H) :
    ReturnsInHanded {} Try.checked os 5 .any (Rows.dealSharesSpec.pre6 enc Try.prog Try.f5 Rows.dealSharesRow.domain false) (Rows.dealSharesSpec.post enc Try.prog Try.f5 false true false false) := by
  refine returnsInHanded_of_change_sized (C := Try.checked) own started (by kernel_rfl) Try.func5
    (ChangeSpec.witness6 (enc := enc) (C := Try.checked) false ⟨#[], #[.agg #[.int .i64 0, .int .i64 0, .int .i64 0, .int .i64 0, .int .i64 0], .slice none 0 0, .slice none 0 0], []⟩ 8 (by kernel_rfl) (by kernel_rfl) (by kernel_rfl) (by kernel_rfl)) ?_
  intro W base args ds gs before hval0 hW _hcnd hsz0 _
  have hval : ∀ (j : Nat) t v, Try.f5.params[j]? = some t → args[j]? = some v → Value.okWide Try.prog W .any base t v := hval0
  have hW' := hW
  obtain ⟨p, q, hA0, hV, rfl, _hfz, _hnd⟩ := hW
  have hA : DataW.TrodAll enc Try.prog W 0 (fun _ => true) true Try.f5.params.toList args.toList ds p := hA0
  have hsz : (DataW.weightsEach Try.prog (Try.f5.params.toList ++ Rows.dealSharesSpec.plain.varTypes Try.prog) (ds ++ gs)).all (· ≤ reachBytes) = true := hsz0
  rw [Try.params5] at hA hval hsz
  obtain ⟨v0, vs0, d0, ds0, p0, q0, hargs, rfl, rfl, h0, r0⟩ := trodAll_cons hA
  obtain ⟨v1, vs1, d1, ds1, p1, q1, rfl, rfl, rfl, h1, r1⟩ := trodAll_cons r0
  obtain ⟨v2, vs2, d2, ds2, p2, q2, rfl, rfl, rfl, h2, r2⟩ := trodAll_cons r1
  obtain ⟨rfl, rfl, rfl⟩ := trodAll_nil r2
  obtain rfl : args = #[v0, v1, v2] := by cases args; simp_all
  obtain ⟨rfl, rfl⟩ := trodVars_none hV
  obtain ⟨a0, T0, K0, E0, R0, rfl, rfl, rfl, w0⟩ := open_five Try.underlying23 (by kernel_rfl) (by kernel_rfl) rfl rfl rfl rfl rfl Try.underlying3 (hval 0 23 v0 rfl rfl) h0
  have k1 := h1
  have lt1 : ∀ x ∈ p1, x.block < W.heap.size := by obtain ⟨m, hm⟩ := k1; exact DataW.trod_lt m _ _ _ hm
  obtain ⟨A1, c1, l1, rfl, w1, sz1⟩ := open_bytes Try.underlying28 Try.underlying5 (by kernel_rfl) (hval 1 28 v1 rfl rfl) h1
  have s1 := sized_bytes hsz (j := 1) (t := 28) (e := 5) rfl rfl Try.underlying28 (by kernel_rfl) sz1
  have k2 := h2
  have lt2 : ∀ x ∈ p2, x.block < W.heap.size := by obtain ⟨m, hm⟩ := k2; exact DataW.trod_lt m _ _ _ hm
  obtain ⟨A2, c2, l2, rfl, w2, sz2⟩ := open_bytes Try.underlying28 Try.underlying5 (by kernel_rfl) (hval 2 28 v2 rfl rfl) h2
  have s2 := sized_bytes hsz (j := 2) (t := 28) (e := 5) rfl rfl Try.underlying28 (by kernel_rfl) sz2
  clear hA0 hval0 hsz0 hsz
  refine (walk a0 T0 K0 E0 R0 A1 c1 l1 A2 c2 l2 W w0 w1 s1 w2 s2).mono fun e W' ⟨he, bel⟩ => ?_
  subst he
  exact ⟨_, rfl, _, _, _, [], _, [], hW', trodAll_mk1 (shut_bool Try.underlying4 _), (trodAll_cons_mk (shut_five Try.underlying23 (by kernel_rfl) (by kernel_rfl) rfl rfl rfl rfl rfl Try.underlying3 w0) (trodAll_cons_mk (Below.trod laidOut (by kernel_rfl) (of_decide_eq_true (by kernel_rfl)) k1 bel lt1) (trodAll_cons_mk (Below.trod laidOut (by kernel_rfl) (of_decide_eq_true (by kernel_rfl)) k2 bel lt2) trodAll_mk0))), rfl, bel.frame _, fun h => by cases h⟩

theorem over : Rows.dealSharesRow.holds Try.pinned (OpenSpec.ofChange Rows.dealSharesSpec) :=
  OpenClaim.holds_of_wide 5 Try.f5 rfl rfl rfl rfl rfl rfl rfl ⟨rfl, rfl, rfl, rfl, rfl⟩ rfl rfl rfl rfl rfl (by kernel_rfl) Try.func5 (by kernel_rfl)
    (of_decide_eq_true (by kernel_rfl)) (by unfold Func.isWrapper; first | (rw [if_pos (by decide +kernel)]; kernel_rfl) | (rw [if_neg (by decide +kernel)]; exact ⟨rfl, rfl⟩))
    (fun os started H enc _ => lifted os started H enc)

end Go.Proofs.Ytaknffdokkfmgaa.dealShares
namespace Go.Proofs.Ytaknffdokkfmgaa
/-- The statement. -/
theorem dealShares_holds : Rows.DealSharesSaid := dealShares.over
#print axioms dealShares_holds
end Go.Proofs.Ytaknffdokkfmgaa

