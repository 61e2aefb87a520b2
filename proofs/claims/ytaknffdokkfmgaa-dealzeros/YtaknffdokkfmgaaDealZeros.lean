/- For every input DealZeros returns true, and every argument reads behind the call as it did before: no condition. -/
import Derived.ProofKit
import Derived.OpenShut
import Derived.SizedLaws
import Derived.ChangeOld
import Derived.Carry
import Derived.Test.YtaknffdokkfmgaaRows
import Derived.Test.YtaknffdokkfmgaaJ2
import Derived.Test.YtaknffdokkfmgaaJ5
import Derived.Test.YtaknffdokkfmgaaJ9
import Derived.Test.YtaknffdokkfmgaaJ14
namespace Go.Proofs.Ytaknffdokkfmgaa.dealZeros
open Go.ChangeShapes Go.WideShapes Go.ChangeAt Go.RowKit Go.Shelf Gw Pol

theorem own : ownKnob Try.prog.godebug = none := by kernel_rfl
theorem laidOut : laidOutB Try.prog = true := by kernel_rfl
set_option maxRecDepth 100000 in
set_option maxHeartbeats 4000000 in
theorem side_yes (n t k e r : Nat) (h1 : 1 ≤ t) (h2 : 1 ≤ k) (h5 : t + k + 2 * e ≤ n) (hg0 : goodB n t k e r = true) (hn30 : n ≤ 30) (A1 : Option Addr) (c1 N : Nat) (l1 : List Nat) (A2 : Option Addr) (c2 M : Nat) (l2 : List Nat) (A3 : Option Addr) (c3 : Nat) (l3 : List Nat) (w : World) (hN : N = l1.length) (hN30 : N ≤ 30) (hM2 : M = l2.length) (hM3 : M = l3.length) (hMb : M ≤ 140737488351232) (wi1 : In w w.heap.size A1 c1 l1) (wi2 : In w w.heap.size A2 c2 l2) (wi3 : In w w.heap.size A3 c3 l3) (C : Nat) (hC : C = Sp.cnt N k) (hlen : M = t * C) :
    Calls Try.prog 10 #[pv n t k e r, .slice A1 N c1, .slice A2 M c2, .slice A3 M c3] w fun e w' => e = .returned (.bool true) ∧ Below w.heap.size w w' := by
  have hCN : C ≤ N := by rw [hC]; exact Sp.cnt_le N k
  have HLEN2 := Lib.hid (show l2.length = t * C by rw [← hM2]; exact hlen)
  have HLEN3 := Lib.hid (show l3.length = t * C by rw [← hM3]; exact hlen)
  have HLENX := Lib.hid (show (xorL l2 l3).length = t * C by rw [xorL_len, ← hM2]; exact hlen)
  have HMX := Lib.hid (show M = (xorL l2 l3).length by rw [xorL_len]; exact hM2)
  have HM2 := Lib.hid hM2
  have HM3 := Lib.hid hM3
  have HN := Lib.hid hN
  have HC := Lib.hid hC
  have hpb1 := Pbx.new w 23 n t k e r
  have hb1 : Below w.heap.size w (w.alloc (.cells #[.int .i64 (n : Int), .int .i64 (t : Int), .int .i64 (k : Int), .int .i64 (e : Int), .int .i64 (r : Int)] 23)) := (Below.refl _ w).alloc (Nat.le_refl _) _
  have HG := Lib.hid (rgood_any n t k e r (w.alloc (.cells #[.int .i64 (n : Int), .int .i64 (t : Int), .int .i64 (k : Int), .int .i64 (e : Int), .int .i64 (r : Int)] 23)))
  rw [hg0] at HG
  clear hM2 hM3 hlen hN hC
  go_enter Try.func10, Try.ntmps10
  go_wp2_with fail
  refine HG.out.mono ?_
  rintro _ u2 ⟨rfl, hb2⟩
  have HP2 := Lib.hid (hpb1.below hb2 hpb1.lt)
  have HB2 := Lib.hid (hb1.trans (hb2.mono hb1.size))
  clear hpb1 hb1 hb2 HG
  obtain ⟨y0, y1, y2, y3, y4⟩ := HP2.out
  go_wp2_with fail
  refine (new_any u2).mono ?_
  rintro _ u3 ⟨rfl, hF3, hb3⟩
  have HP3 := Lib.hid (HP2.out.below hb3 HP2.out.lt)
  have HB3 := Lib.hid (HB2.out.trans (hb3.mono HB2.out.size))
  have HF3 := Lib.hid hF3
  clear y0 y1 y2 y3 y4 hb3 hF3
  obtain ⟨y0, y1, y2, y3, y4⟩ := HP3.out
  have HI1a := Lib.hid ((wi1.below HB3.out).more HB3.out.size)
  have HI2a := Lib.hid ((wi2.below HB3.out).more HB3.out.size)
  go_wp2_with fail
  refine (dshare_yes n t k e r hg0 u2.heap.size A1 A2 c1 c2 N M C l1 l2 HN.out HM2.out u3 HF3.out HI1a.out HI2a.out HC.out HLEN2.out (by omega)).mono ?_
  rintro _ u4 ⟨Ax, cx, px, qx, rfl, hX, hb4⟩
  have HPB := Lib.hid (HP3.out.below hb4 HP3.out.lt)
  have HPL := Lib.hid HPB.out.lt
  have HB4 := Lib.hid (HB3.out.trans (hb4.mono HB3.out.size))
  have HF4 := Lib.hid (HF3.out.below hb4 HF3.out.lt)
  have HI1b := Lib.hid ((wi1.below HB4.out).more HB4.out.size)
  have HI3b := Lib.hid ((wi3.below HB4.out).more HB4.out.size)
  have HX4 := Lib.hid hX
  clear hX
  clear y0 y1 y2 y3 y4 hb4
  go_wp2
  rename_i K0 hK0
  refine Gt.regionA [Gt.Is (.pointer (some ⟨u2.heap.size, 0, none⟩)), Gt.Is (pv (n : Int) (t : Int) (k : Int) (e : Int) (r : Int)), Gt.Is (.slice A1 N c1), Gt.Is (.pointer (some ⟨w.heap.size, 2, none⟩)), Gt.Is (.int .i64 (k : Int)), LIs C, Gt.Is (.int .i64 (C : Int)), Gt.Is (.slice A3 M c3), TIs n (shRow (timL (rt (secL n k)) l3 t) C), TIs n (shRow (timL (rt (secL n k)) l3 t) C), MIs n (shRow (timL (rt (secL n k)) l3 t) C), Gt.Is (.bool true), MIs n (shRow (timL (rt (secL n k)) l3 t) C), Gt.Is (.bool true)] 125
    [⟨[], [9], none⟩, ⟨[], [4], none⟩, ⟨[], [1], none⟩, ⟨[], [4], none⟩, ⟨[(3, 53)], [], none⟩, ⟨[(2, 52), (4, 54)], [], none⟩, ⟨[(5, 55)], [], none⟩, ⟨[], [3], none⟩, ⟨[(0, 50), (1, 51), (6, 56), (7, 57)], [], none⟩, ⟨[(8, 58)], [], none⟩, ⟨[(9, 49)], [], none⟩, ⟨[(9, 49)], [], none⟩, ⟨[(10, 59)], [], none⟩, ⟨[(11, 60)], [], none⟩]
    [(0, 50), (1, 51), (2, 52), (3, 53), (4, 54), (5, 55), (6, 56), (7, 57), (8, 58), (9, 49), (10, 59), (11, 60), (12, 12), (13, 13)] (by kernel_rfl) (by kernel_rfl) (by kernel_rfl) (by kernel_rfl) ?_ ?_ ?_
  · simp only [Gt.Monos]
    repeat' apply And.intro
    all_goals (first | exact trivial | exact Gt.Is.mono _ | exact OIs.mono _ _ _ | exact NIs.mono _ _ | exact FIs.mono | exact MIs.mono _ _ | exact TIs.mono _ _ | exact ZIs.mono | exact EIs.mono | exact LIs.mono _ | exact SIs.mono _ _ | exact GIs.mono _ _ _)
  · simp only [Gt.Obs]
    repeat' apply And.intro
    all_goals try exact trivial
    all_goals (
      intro a w5 hg
      have hg' : Below u4.heap.size u4 w5 := hg
      simp only [Gt.Pre, Gt.Kept, Gt.Guarded, Gt.tys, List.getD_cons_zero, List.getD_cons_succ, Gt.Is, Nat.zero_add, Nat.reduceAdd]
      intros
      try (refine ⟨fun _ => ?_, fun hne => absurd (by assumption) hne⟩))
    all_goals (first
      | exact Gt.ok_move rfl (by assumption)
      | exact Gt.ok_assign rfl (by assumption)
      | exact Gt.ok_pick rfl (by assumption) (by rw [if_pos rfl]; assumption)
      | (exact Gt.ok_load rfl (by assumption) (HPB.out.below hg' HPL.out).load rfl)
      | (refine Gt.ok_call (f := 22) rfl #[.slice A1 N c1, .int .i64 (k : Int)] (by kernel_rfl) (by simp [*]) ((rsplit_any A1 c1 N k l1 w5 HN.out ((HI1b.out.below hg').more hg'.size) (by omega) (by omega) (by omega)).mono ?_)
         rintro e w6 ⟨v6, pa6, cp6, rfl, hG6⟩
         obtain ⟨A6, c6, rfl, _, _⟩ := hG6.shape
         exact ⟨_, rfl, hG6.bel, A6, c6, by rw [HC.out]⟩)
      | (obtain ⟨A6, c6, hv6⟩ : LIs C (a.eval (.tmp 55)) w5 := by assumption
         refine Gt.ok_run ?_ rfl
         simp only [execOp, resolve, List.map_toArray, List.map_cons, List.map_nil, hv6]
         go_simp
         done)
      | (refine Gt.ok_call (f := 26) rfl #[.pointer (some ⟨u2.heap.size, 0, none⟩), pv (n : Int) (t : Int) (k : Int) (e : Int) (r : Int), .int .i64 (C : Int), .slice A3 M c3] (by kernel_rfl) (by simp [*]) ((dzeros_yes n t k e r hg0 u2.heap.size A3 c3 M C l3 HM3.out w5 (HF4.out.below hg' HF4.out.lt) ((HI3b.out.below hg').more hg'.size) HLEN3.out (by omega)).mono ?_)
         rintro e w6 ⟨A9, c9, pa9, cp9, rfl, hM9, hb9⟩
         exact ⟨_, rfl, hb9, A9, c9, pa9, cp9, rfl, hM9⟩)
      | (obtain ⟨A6, c6, pa6, cp6, hv6, hM6⟩ : TIs n (shRow (timL (rt (secL n k)) l3 t) C) (a.eval (.tmp 49)) w5 := by assumption
         refine Gt.ok_run (v := .slice A6 n c6) ?_ ⟨A6, c6, pa6, cp6, rfl, hM6⟩
         simp only [execOp, hv6]
         go_simp
         done)
      | (obtain ⟨A6, c6, pa6, cp6, hv6, hM6⟩ : TIs n (shRow (timL (rt (secL n k)) l3 t) C) (a.eval (.tmp 49)) w5 := by assumption
         refine Gt.ok_run (v := .bool true) ?_ rfl
         simp only [execOp, hv6]
         go_simp
         done)
      | (have z5 := HPB.out.below hg' HPL.out
         have z50 := z5.c0
         have z51 := z5.c1
         have z52 := z5.c2
         refine Gt.ok_run ?_ rfl
         simp only [execOp, *]
         go_simp
         done))
  · intro a w5 hg
    have hg' : Below u4.heap.size u4 w5 := hg
    simp only [Gt.Pre, Gt.tys, List.getD_cons_zero, List.getD_cons_succ, Gt.Is]
    intro h0 h1 h2 h3 h4 h5 h6 h7 h8 h9 h10 h11 h12 h13
    show K0 _ _
    refine hK0 _ _ ?_
    obtain ⟨Ay, cy, py, qy, h12, hY⟩ := h12
    obtain ⟨_, _, _, _, h10, _⟩ := h10
    obtain ⟨_, _, h5⟩ := h5
    simp only [Gt.puts, List.foldl_cons, List.foldl_nil, h0, h1, h2, h3, h4, h5, h6, h7, h10, h11, h12, h13]
    simp only [Act.put, List.setIfInBounds_toArray, List.set_cons_zero, List.set_cons_succ]
    have HB5 := Lib.hid (HB4.out.trans (hg'.mono HB4.out.size))
    have HF5 := Lib.hid (HF4.out.below hg' HF4.out.lt)
    have HPB5 := Lib.hid (HPB.out.below hg' HPL.out)
    have HPL5 := Lib.hid HPB5.out.lt
    have HI1w := Lib.hid ((wi1.below HB5.out).more HB5.out.size)
    have HI2w := Lib.hid ((wi2.below HB5.out).more HB5.out.size)
    have HI3w := Lib.hid ((wi3.below HB5.out).more HB5.out.size)
    have HX5 := Lib.hid ((HX4.out.below hg').more hg'.size)
    have HY5 := Lib.hid hY
    clear hY HX4
    clear h0 h1 h2 h3 h4 h5 h6 h7 h8 h9 h10 h11 h12 h13 HPB HPL
    clear hg' hg
    obtain ⟨u5, rfl⟩ : ∃ u5, u5 = w5 := ⟨_, rfl⟩
    go_wp2
    rename_i K00 hK00
    refine Gt.regionA [Gt.Is (.pointer (some ⟨u2.heap.size, 0, none⟩)), Gt.Is (pv (n : Int) (t : Int) (k : Int) (e : Int) (r : Int)), Gt.Is (.slice A1 N c1), Gt.Is (.slice A2 M c2), Gt.Is (.slice A3 M c3), OIs u5.heap.size M (xorL l2 l3), TIs n (shRow (polL n k t l1 (xorL l2 l3)) C), TIs n (shRow (polL n k t l1 (xorL l2 l3)) C), MIs n (shRow (polL n k t l1 (xorL l2 l3)) C), Gt.Is (.bool true), MIs n (shRow (polL n k t l1 (xorL l2 l3)) C), Gt.Is (.bool true)] 125
      [⟨[], [9], none⟩, ⟨[], [4], none⟩, ⟨[], [1], none⟩, ⟨[], [2], none⟩, ⟨[], [3], none⟩, ⟨[(3, 65), (4, 66)], [], none⟩, ⟨[(0, 62), (1, 63), (2, 64), (5, 67)], [], none⟩, ⟨[(6, 68)], [], none⟩, ⟨[(7, 61)], [], none⟩, ⟨[(7, 61)], [], none⟩, ⟨[(8, 69)], [], none⟩, ⟨[(9, 70)], [], none⟩]
      [(0, 62), (1, 63), (2, 64), (3, 65), (4, 66), (5, 67), (6, 68), (7, 61), (8, 69), (9, 70), (10, 14), (11, 15)] (by kernel_rfl) (by kernel_rfl) (by kernel_rfl) (by kernel_rfl) ?_ ?_ ?_
    · simp only [Gt.Monos]
      repeat' apply And.intro
      all_goals (first | exact trivial | exact Gt.Is.mono _ | exact OIs.mono _ _ _ | exact NIs.mono _ _ | exact FIs.mono | exact MIs.mono _ _ | exact TIs.mono _ _ | exact ZIs.mono | exact EIs.mono | exact LIs.mono _ | exact SIs.mono _ _ | exact GIs.mono _ _ _)
    · simp only [Gt.Obs]
      repeat' apply And.intro
      all_goals try exact trivial
      all_goals (
        intro a w5 hg
        have hg' : Below u5.heap.size u5 w5 := hg
        simp only [Gt.Pre, Gt.Kept, Gt.Guarded, Gt.tys, List.getD_cons_zero, List.getD_cons_succ, Gt.Is, Nat.zero_add, Nat.reduceAdd]
        intros
        try (refine ⟨fun _ => ?_, fun hne => absurd (by assumption) hne⟩))
      all_goals (first
        | exact Gt.ok_move rfl (by assumption)
        | exact Gt.ok_assign rfl (by assumption)
        | exact Gt.ok_pick rfl (by assumption) (by rw [if_pos rfl]; assumption)
        | (exact Gt.ok_load rfl (by assumption) (HPB5.out.below hg' HPL5.out).load rfl)
        | (refine Gt.ok_call (f := 35) rfl #[.slice A2 M c2, .slice A3 M c3] (by kernel_rfl) (by simp [*]) ((rxor_any A2 A3 c2 c3 M M l2 l3 HM2.out HM3.out w5 ((HI2w.out.below hg').more hg'.size) ((HI3w.out.below hg').more hg'.size) (by omega)).mono ?_)
           rintro e w6 ⟨A6, c6, rfl, ho6, hb6⟩
           exact ⟨_, rfl, hb6, A6, c6, rfl, ho6.base hg'.size⟩)
        | (obtain ⟨A6, c6, hv6, ho6⟩ : OIs u5.heap.size M (xorL l2 l3) (a.eval (.tmp 67)) w5 := by assumption
           refine Gt.ok_call (f := 20) rfl #[.pointer (some ⟨u2.heap.size, 0, none⟩), pv (n : Int) (t : Int) (k : Int) (e : Int) (r : Int), .slice A1 N c1, .slice A6 M c6] (by kernel_rfl) (by simp [*]) ((dshare_yes n t k e r hg0 u2.heap.size A1 A6 c1 c6 N M C l1 (xorL l2 l3) HN.out HMX.out w5 (HF5.out.below hg' HF5.out.lt) ((HI1w.out.below hg').more hg'.size) ho6.inn HC.out HLENX.out (by omega)).mono ?_)
           rintro e w6 ⟨A9, c9, pa9, cp9, rfl, hM9, hb9⟩
           exact ⟨_, rfl, hb9, A9, c9, pa9, cp9, rfl, hM9⟩)
        | (obtain ⟨A6, c6, pa6, cp6, hv6, hM6⟩ : TIs n (shRow (polL n k t l1 (xorL l2 l3)) C) (a.eval (.tmp 61)) w5 := by assumption
           refine Gt.ok_run (v := .slice A6 n c6) ?_ ⟨A6, c6, pa6, cp6, rfl, hM6⟩
           simp only [execOp, hv6]
           go_simp
           done)
        | (obtain ⟨A6, c6, pa6, cp6, hv6, hM6⟩ : TIs n (shRow (polL n k t l1 (xorL l2 l3)) C) (a.eval (.tmp 61)) w5 := by assumption
           refine Gt.ok_run (v := .bool true) ?_ rfl
           simp only [execOp, hv6]
           go_simp
           done))
    · intro a w5 hg
      have hg' : Below u5.heap.size u5 w5 := hg
      simp only [Gt.Pre, Gt.tys, List.getD_cons_zero, List.getD_cons_succ, Gt.Is]
      intro h0 h1 h2 h3 h4 h5 h6 h7 h8 h9 h10 h11
      show K00 _ _
      refine hK00 _ _ ?_
      obtain ⟨Az, cz, pz, qz, h10, hZ⟩ := h10
      obtain ⟨_, _, _, _, h8, _⟩ := h8
      obtain ⟨_, _, h5, _⟩ := h5
      simp only [Gt.puts, List.foldl_cons, List.foldl_nil, h0, h1, h2, h3, h4, h5, h8, h9, h10, h11]
      simp only [Act.put, List.setIfInBounds_toArray, List.set_cons_zero, List.set_cons_succ]
      have HBL := Lib.hid (HB5.out.trans (hg'.mono HB5.out.size))
      clear h0 h1 h2 h3 h4 h5 h6 h7 h8 h9 h10 h11
      have HPB2 := Lib.hid (HPB5.out.below hg' HPL5.out)
      have HX := Lib.hid ((HX5.out.below hg').more hg'.size)
      have HY := Lib.hid ((HY5.out.below hg').more hg'.size)
      have HZ := Lib.hid hZ
      obtain ⟨lx, hlx⟩ : ∃ l, l = shRow (polL n k t l1 l2) C := ⟨_, rfl⟩
      obtain ⟨ly, hly⟩ : ∃ l, l = shRow (timL (rt (secL n k)) l3 t) C := ⟨_, rfl⟩
      obtain ⟨lz, hlz⟩ : ∃ l, l = shRow (polL n k t l1 (xorL l2 l3)) C := ⟨_, rfl⟩
      have HEQ := Lib.hid (show ∀ h, h < n → xorL (lx h) (ly h) = lz h from fun h hh => by
        rw [hlx, hly, hlz]; exact sum_share wi2.bb wi3.bb (by rw [← HM2.out, ← HM3.out]) (by omega) _)
      have HCX := Lib.hid (show ∀ h, (lx h).length = C from fun h => by rw [hlx, shRow_len])
      have HCY := Lib.hid (show ∀ h, (ly h).length = C from fun h => by rw [hly, shRow_len])
      have HCZ := Lib.hid (show ∀ h, (lz h).length = C from fun h => by rw [hlz, shRow_len])
      rw [← hlx] at HX
      rw [← hly] at HY
      rw [← hlz] at HZ
      clear hZ HX5 HY5 HPB5 HPL5 hlx hly hlz hg' hg
      have HPB := HPB2
      clear HPB2
      obtain ⟨wL, rfl⟩ : ∃ wL, wL = w5 := ⟨_, rfl⟩
      go_wp2
      go_loopw [16] (LpRel wL n) (fun i _ => n - (intOf i).toNat)
      case atStart => exact ⟨0, Nat.zero_le _, rfl, Below.refl _ _⟩
      case round =>
        obtain ⟨h, hh0, rfl, hbr⟩ := hrel
        have z0 := (HPB.out.below hbr HPB.out.lt).c0
        by_cases hh : h < n
        · have hhi : (h : Int) < (n : Int) := by omega
          have hbs := hbr.size
          obtain ⟨bx, ox, hAx, hlx, hkx, hix⟩ := (HX.out.below hbr).rd h hh
          obtain ⟨by_, oy, hAy, hly, hky, hiy⟩ := (HY.out.below hbr).rd h hh
          obtain ⟨bz, oz, hAz, hlz, hkz, hiz⟩ := (HZ.out.below hbr).rd h hh
          subst hAx hAy hAz
          rw [HCX.out h] at hkx
          rw [HCY.out h] at hky
          rw [HCZ.out h] at hkz
          have hcapx := HX.out.cap
          have hcapy := HY.out.cap
          have hcapz := HZ.out.cap
          obtain ⟨σ, hσ⟩ : ∃ σ, σ = str (lz h) := ⟨_, rfl⟩
          have HSG := Lib.hid hσ
          have HKX := Lib.hid hkx
          have HKY := Lib.hid hky
          have HKZ0 := Lib.hid hkz
          have HLX := Lib.hid (show bx < wr.heap.size by omega)
          have HLY := Lib.hid (show by_ < wr.heap.size by omega)
          have HLZ0 := Lib.hid (show bz < wr.heap.size by omega)
          have HIX := Lib.hid (hix.more hbs)
          have HIY := Lib.hid (hiy.more hbs)
          have HIZ0 := Lib.hid (hiz.more hbs)
          have HBR := Lib.hid hbr
          clear hkx hky hkz hix hiy hiz hbr hσ hlx hly hlz
          go_wp2
          clear z0
          rename_i K1 hK1
          refine Gt.regionA [Gt.Is (.slice (some ⟨bx, ox, none⟩) n cx), Gt.Is (.int .i64 (h : Int)), Gt.Is (.pointer (some ⟨bx, ox + h, none⟩)), Gt.Is (.slice (px h) C (qx h)), Gt.Is (.slice (some ⟨by_, oy, none⟩) n cy), Gt.Is (.int .i64 (h : Int)), Gt.Is (.pointer (some ⟨by_, oy + h, none⟩)), Gt.Is (.slice (py h) C (qy h)), SIs C (lz h), SIs C (lz h), NIs C (lz h), Gt.Is (.bool true), NIs C (lz h), Gt.Is (.bool true)] 125
            [⟨[], [10], none⟩, ⟨[], [16], none⟩, ⟨[(0, 101), (1, 102)], [], none⟩, ⟨[(2, 103)], [], none⟩, ⟨[], [12], none⟩, ⟨[], [16], none⟩, ⟨[(4, 105), (5, 106)], [], none⟩, ⟨[(6, 107)], [], none⟩, ⟨[(3, 104), (7, 108)], [], none⟩, ⟨[(8, 109)], [], none⟩, ⟨[(9, 100)], [], none⟩, ⟨[(9, 100)], [], none⟩, ⟨[(10, 110)], [], none⟩, ⟨[(11, 111)], [], none⟩]
            [(0, 101), (1, 102), (2, 103), (3, 104), (4, 105), (5, 106), (6, 107), (7, 108), (8, 109), (9, 100), (10, 110), (11, 111), (12, 17), (13, 18)] (by kernel_rfl) (by kernel_rfl) (by kernel_rfl) (by kernel_rfl) ?_ ?_ ?_
          · simp only [Gt.Monos]
            repeat' apply And.intro
            all_goals (first | exact trivial | exact Gt.Is.mono _ | exact OIs.mono _ _ _ | exact NIs.mono _ _ | exact FIs.mono | exact MIs.mono _ _ | exact TIs.mono _ _ | exact ZIs.mono | exact EIs.mono | exact LIs.mono _ | exact SIs.mono _ _ | exact GIs.mono _ _ _)
          · simp only [Gt.Obs]
            repeat' apply And.intro
            all_goals try exact trivial
            all_goals (
              intro a w5 hg
              have hg' : Below wr.heap.size wr w5 := hg
              simp only [Gt.Pre, Gt.Kept, Gt.Guarded, Gt.tys, List.getD_cons_zero, List.getD_cons_succ, Gt.Is, Nat.zero_add, Nat.reduceAdd]
              intros
              try (refine ⟨fun _ => ?_, fun hne => absurd (by assumption) hne⟩))
            all_goals (first
              | exact Gt.ok_move rfl (by assumption)
              | exact Gt.ok_assign rfl (by assumption)
              | exact Gt.ok_pick rfl (by assumption) (by rw [if_pos rfl]; assumption)
              | (refine Gt.ok_call (f := 36) rfl #[.slice (px h) C (qx h), .slice (py h) C (qy h)] (by kernel_rfl) (by simp [*]) ((dsum_yes (px h) (py h) (qx h) (qy h) C (lx h) (ly h) (HCX.out h).symm (HCY.out h).symm w5 ((HIX.out.below hg').more hg'.size) ((HIY.out.below hg').more hg'.size) (by omega)).mono ?_)
                 rintro e w6 ⟨A6, c6, rfl, hI6, hb6⟩
                 rw [HEQ.out h hh] at hI6
                 exact ⟨_, rfl, hb6, A6, c6, rfl, hI6⟩)
              | (obtain ⟨A6, c6, hv6, hI6⟩ : SIs C (lz h) (a.eval (.tmp 100)) w5 := by assumption
                 refine Gt.ok_run (v := .slice A6 C c6) ?_ ⟨A6, c6, rfl, hI6⟩
                 simp only [execOp, hv6]
                 go_simp
                 done)
              | (obtain ⟨A6, c6, hv6, hI6⟩ : SIs C (lz h) (a.eval (.tmp 100)) w5 := by assumption
                 refine Gt.ok_run (v := .bool true) ?_ rfl
                 simp only [execOp, hv6]
                 go_simp
                 done)
              | (have k5 := (hg'.cell (p := ⟨bx, ox + h, none⟩) HLX.out).trans HKX.out
                 have k6 := (hg'.cell (p := ⟨by_, oy + h, none⟩) HLY.out).trans HKY.out
                 refine Gt.ok_run ?_ rfl
                 simp only [execOp, *]
                 go_simp
                 done))
          · intro a w5 hg
            have hg' : Below wr.heap.size wr w5 := hg
            simp only [Gt.Pre, Gt.tys, List.getD_cons_zero, List.getD_cons_succ, Gt.Is]
            intro h0 h1 h2 h3 h4 h5 h6 h7 h8 h9 h10 h11 h12 h13
            show K1 _ _
            refine hK1 _ _ ?_
            obtain ⟨As, cs, h12, hIs⟩ := h12
            obtain ⟨_, _, h10, _⟩ := h10
            simp only [Gt.puts, List.foldl_cons, List.foldl_nil, h0, h1, h2, h3, h4, h5, h6, h7, h10, h11, h12, h13]
            simp only [Act.put, List.setIfInBounds_toArray, List.set_cons_zero, List.set_cons_succ]
            have HIS := Lib.hid hIs
            have HBR2 := Lib.hid (HBR.out.trans (hg'.mono HBR.out.size))
            have HIZ := Lib.hid ((HIZ0.out.below hg').more hg'.size)
            have HKZ := Lib.hid ((hg'.cell (p := ⟨bz, oz + h, none⟩) HLZ0.out).trans HKZ0.out)
            have HLZ := Lib.hid (Nat.lt_of_lt_of_le HLZ0.out hg'.size)
            clear h0 h1 h2 h3 h4 h5 h6 h7 h8 h9 h10 h11 h12 h13 hIs HIX HIY HKX HKY HLX HLY HIZ0 HKZ0 HLZ0 HBR
            clear hg' hg
            obtain ⟨w7, rfl⟩ : ∃ w7, w7 = w5 := ⟨_, rfl⟩
            go_wp2
            rename_i K2 hK2
            refine Gt.regionA [Gt.Is (.bool true), Gt.Is (.bool false), Gt.Is (.bool false), Gt.Is (.slice As C cs), Gt.Is (.string σ), Gt.Is (.slice (some ⟨bz, oz, none⟩) n cz), Gt.Is (.int .i64 (h : Int)), Gt.Is (.pointer (some ⟨bz, oz + h, none⟩)), Gt.Is (.slice (pz h) C (qz h)), Gt.Is (.string σ), Gt.Is (.bool false), Gt.Is (.bool false)] 125
              [⟨[], [18], none⟩, ⟨[(0, 112)], [], none⟩, ⟨[(1, 113)], [], none⟩, ⟨[(2, 114)], [17], some (114, false)⟩, ⟨[(2, 114), (3, 115)], [], some (114, false)⟩, ⟨[(2, 114)], [14], some (114, false)⟩, ⟨[(2, 114)], [16], some (114, false)⟩, ⟨[(2, 114), (5, 117), (6, 118)], [], some (114, false)⟩, ⟨[(2, 114), (7, 119)], [], some (114, false)⟩, ⟨[(2, 114), (8, 120)], [], some (114, false)⟩, ⟨[(2, 114), (4, 116), (9, 121)], [], some (114, false)⟩, ⟨[(2, 114), (10, 122)], [], none⟩]
              [(0, 112), (1, 113), (2, 114), (3, 115), (4, 116), (5, 117), (6, 118), (7, 119), (8, 120), (9, 121), (10, 122), (11, 123)] (by kernel_rfl) (by kernel_rfl) (by kernel_rfl) (by kernel_rfl) ?_ ?_ ?_
            · simp only [Gt.Monos]
              repeat' apply And.intro
              all_goals (first | exact trivial | exact Gt.Is.mono _ | exact OIs.mono _ _ _ | exact NIs.mono _ _ | exact FIs.mono | exact MIs.mono _ _ | exact TIs.mono _ _ | exact ZIs.mono | exact EIs.mono | exact LIs.mono _ | exact SIs.mono _ _ | exact GIs.mono _ _ _)
            · simp only [Gt.Obs]
              repeat' apply And.intro
              all_goals try exact trivial
              all_goals (
                intro a w5 hg
                have hg' : Below w7.heap.size w7 w5 := hg
                simp only [Gt.Pre, Gt.Kept, Gt.Guarded, Gt.tys, List.getD_cons_zero, List.getD_cons_succ, Gt.Is, Nat.zero_add, Nat.reduceAdd]
                intros
                try (refine ⟨fun _ => ?_, fun hne => absurd (by assumption) hne⟩))
              all_goals (first
                | exact Gt.ok_move rfl (by assumption)
                | exact Gt.ok_assign rfl (by assumption)
                | exact Gt.ok_pick rfl (by assumption) (by rw [if_pos rfl]; assumption)
                | (have k5 := conv_sl (P := Try.prog) (HIS.out.below hg').sl Try.underlying28 Try.underlying5 Try.underlying9 cs
                   rw [HCZ.out h, ← HSG.out] at k5
                   exact Gt.ok_convert rfl (by assumption) k5 rfl)
                | (have k5 := conv_sl (P := Try.prog) (HIZ.out.below hg').sl Try.underlying28 Try.underlying5 Try.underlying9 (qz h)
                   rw [HCZ.out h, ← HSG.out] at k5
                   exact Gt.ok_convert rfl (by assumption) k5 rfl)
                | (have k5 := (hg'.cell (p := ⟨bz, oz + h, none⟩) HLZ.out).trans HKZ.out
                   refine Gt.ok_run ?_ rfl
                   simp only [execOp, *]
                   go_simp
                   done))
            · intro a w5 hg
              have hg' : Below w7.heap.size w7 w5 := hg
              simp only [Gt.Pre, Gt.tys, List.getD_cons_zero, List.getD_cons_succ, Gt.Is]
              intro h0 h1 h2 h3 h4 h5 h6 h7 h8 h9 h10 h11
              show K2 _ _
              refine hK2 _ _ ?_
              simp only [Gt.puts, List.foldl_cons, List.foldl_nil, h0, h1, h2, h3, h4, h5, h6, h7, h8, h9, h10, h11]
              simp only [Act.put, List.setIfInBounds_toArray, List.set_cons_zero, List.set_cons_succ]
              have HBR3 := Lib.hid (HBR2.out.trans (hg'.mono HBR2.out.size))
              clear h0 h1 h2 h3 h4 h5 h6 h7 h8 h9 h10 h11
              clear hg' hg
              go_wp2
              go_roundw
              case rel => exact ⟨h + 1, by omega, by go_num, HBR3.out⟩
              case measure => simp [intOf]; omega
            
        · have hhn : ¬ (h : Int) < (n : Int) := by omega
          have HBW := Lib.hid (HBL.out.trans (hbr.mono HBL.out.size))
          clear hbr
          go_wp2_with fail
          refine (answers_any wr).mono ?_
          rintro _ x5 ⟨rfl, hx5⟩
          go_wp2
          go_ret
          exact ⟨rfl, HBW.out.trans (hx5.mono HBW.out.size)⟩
      
    
set_option maxRecDepth 100000 in
set_option maxHeartbeats 4000000 in
theorem side_no (n t k e r : Nat) (h1 : 1 ≤ t) (h2 : 1 ≤ k) (h5 : t + k + 2 * e ≤ n) (hg0 : goodB n t k e r = true) (hn30 : n ≤ 30) (A1 : Option Addr) (c1 N : Nat) (l1 : List Nat) (A2 : Option Addr) (c2 M : Nat) (l2 : List Nat) (A3 : Option Addr) (c3 : Nat) (l3 : List Nat) (w : World) (hN : N = l1.length) (hN30 : N ≤ 30) (hM2 : M = l2.length) (hM3 : M = l3.length) (hMb : M ≤ 140737488351232) (wi1 : In w w.heap.size A1 c1 l1) (wi2 : In w w.heap.size A2 c2 l2) (wi3 : In w w.heap.size A3 c3 l3) (C : Nat) (hC : C = Sp.cnt N k) (hlen : M ≠ t * C) :
    Calls Try.prog 10 #[pv n t k e r, .slice A1 N c1, .slice A2 M c2, .slice A3 M c3] w fun e w' => e = .returned (.bool true) ∧ Below w.heap.size w w' := by
  have hCN : C ≤ N := by rw [hC]; exact Sp.cnt_le N k
  have HLEN2 := Lib.hid (show l2.length ≠ t * C by rw [← hM2]; exact hlen)
  have HLEN3 := Lib.hid (show l3.length ≠ t * C by rw [← hM3]; exact hlen)
  have HLENX := Lib.hid (show (xorL l2 l3).length ≠ t * C by rw [xorL_len, ← hM2]; exact hlen)
  have HMX := Lib.hid (show M = (xorL l2 l3).length by rw [xorL_len]; exact hM2)
  have HM2 := Lib.hid hM2
  have HM3 := Lib.hid hM3
  have HN := Lib.hid hN
  have HC := Lib.hid hC
  have hpb1 := Pbx.new w 23 n t k e r
  have hb1 : Below w.heap.size w (w.alloc (.cells #[.int .i64 (n : Int), .int .i64 (t : Int), .int .i64 (k : Int), .int .i64 (e : Int), .int .i64 (r : Int)] 23)) := (Below.refl _ w).alloc (Nat.le_refl _) _
  have HG := Lib.hid (rgood_any n t k e r (w.alloc (.cells #[.int .i64 (n : Int), .int .i64 (t : Int), .int .i64 (k : Int), .int .i64 (e : Int), .int .i64 (r : Int)] 23)))
  rw [hg0] at HG
  clear hM2 hM3 hlen hN hC
  go_enter Try.func10, Try.ntmps10
  go_wp2_with fail
  refine HG.out.mono ?_
  rintro _ u2 ⟨rfl, hb2⟩
  have HP2 := Lib.hid (hpb1.below hb2 hpb1.lt)
  have HB2 := Lib.hid (hb1.trans (hb2.mono hb1.size))
  clear hpb1 hb1 hb2 HG
  obtain ⟨y0, y1, y2, y3, y4⟩ := HP2.out
  go_wp2_with fail
  refine (new_any u2).mono ?_
  rintro _ u3 ⟨rfl, hF3, hb3⟩
  have HP3 := Lib.hid (HP2.out.below hb3 HP2.out.lt)
  have HB3 := Lib.hid (HB2.out.trans (hb3.mono HB2.out.size))
  have HF3 := Lib.hid hF3
  clear y0 y1 y2 y3 y4 hb3 hF3
  obtain ⟨y0, y1, y2, y3, y4⟩ := HP3.out
  have HI1a := Lib.hid ((wi1.below HB3.out).more HB3.out.size)
  have HI2a := Lib.hid ((wi2.below HB3.out).more HB3.out.size)
  go_wp2_with fail
  refine (dshare_no n t k e r hg0 u2.heap.size A1 A2 c1 c2 N M C l1 l2 HN.out HM2.out u3 HF3.out HI1a.out HI2a.out HC.out HLEN2.out (by omega) (by omega)).mono ?_
  rintro _ u4 ⟨Ax, cx, rfl, hb4⟩
  have HPB := Lib.hid (HP3.out.below hb4 HP3.out.lt)
  have HPL := Lib.hid HPB.out.lt
  have HB4 := Lib.hid (HB3.out.trans (hb4.mono HB3.out.size))
  have HF4 := Lib.hid (HF3.out.below hb4 HF3.out.lt)
  have HI1b := Lib.hid ((wi1.below HB4.out).more HB4.out.size)
  have HI3b := Lib.hid ((wi3.below HB4.out).more HB4.out.size)
  clear y0 y1 y2 y3 y4 hb4
  go_wp2
  rename_i K0 hK0
  refine Gt.regionA [Gt.Is (.pointer (some ⟨u2.heap.size, 0, none⟩)), Gt.Is (pv (n : Int) (t : Int) (k : Int) (e : Int) (r : Int)), Gt.Is (.slice A1 N c1), Gt.Is (.pointer (some ⟨w.heap.size, 2, none⟩)), Gt.Is (.int .i64 (k : Int)), LIs C, Gt.Is (.int .i64 (C : Int)), Gt.Is (.slice A3 M c3), ZIs, ZIs, EIs, Gt.Is (.bool false), EIs, Gt.Is (.bool false)] 125
    [⟨[], [9], none⟩, ⟨[], [4], none⟩, ⟨[], [1], none⟩, ⟨[], [4], none⟩, ⟨[(3, 53)], [], none⟩, ⟨[(2, 52), (4, 54)], [], none⟩, ⟨[(5, 55)], [], none⟩, ⟨[], [3], none⟩, ⟨[(0, 50), (1, 51), (6, 56), (7, 57)], [], none⟩, ⟨[(8, 58)], [], none⟩, ⟨[(9, 49)], [], none⟩, ⟨[(9, 49)], [], none⟩, ⟨[(10, 59)], [], none⟩, ⟨[(11, 60)], [], none⟩]
    [(0, 50), (1, 51), (2, 52), (3, 53), (4, 54), (5, 55), (6, 56), (7, 57), (8, 58), (9, 49), (10, 59), (11, 60), (12, 12), (13, 13)] (by kernel_rfl) (by kernel_rfl) (by kernel_rfl) (by kernel_rfl) ?_ ?_ ?_
  · simp only [Gt.Monos]
    repeat' apply And.intro
    all_goals (first | exact trivial | exact Gt.Is.mono _ | exact OIs.mono _ _ _ | exact NIs.mono _ _ | exact FIs.mono | exact MIs.mono _ _ | exact TIs.mono _ _ | exact ZIs.mono | exact EIs.mono | exact LIs.mono _ | exact SIs.mono _ _ | exact GIs.mono _ _ _)
  · simp only [Gt.Obs]
    repeat' apply And.intro
    all_goals try exact trivial
    all_goals (
      intro a w5 hg
      have hg' : Below u4.heap.size u4 w5 := hg
      simp only [Gt.Pre, Gt.Kept, Gt.Guarded, Gt.tys, List.getD_cons_zero, List.getD_cons_succ, Gt.Is, Nat.zero_add, Nat.reduceAdd]
      intros
      try (refine ⟨fun _ => ?_, fun hne => absurd (by assumption) hne⟩))
    all_goals (first
      | exact Gt.ok_move rfl (by assumption)
      | exact Gt.ok_assign rfl (by assumption)
      | exact Gt.ok_pick rfl (by assumption) (by rw [if_pos rfl]; assumption)
      | (exact Gt.ok_load rfl (by assumption) (HPB.out.below hg' HPL.out).load rfl)
      | (refine Gt.ok_call (f := 22) rfl #[.slice A1 N c1, .int .i64 (k : Int)] (by kernel_rfl) (by simp [*]) ((rsplit_any A1 c1 N k l1 w5 HN.out ((HI1b.out.below hg').more hg'.size) (by omega) (by omega) (by omega)).mono ?_)
         rintro e w6 ⟨v6, pa6, cp6, rfl, hG6⟩
         obtain ⟨A6, c6, rfl, _, _⟩ := hG6.shape
         exact ⟨_, rfl, hG6.bel, A6, c6, by rw [HC.out]⟩)
      | (obtain ⟨A6, c6, hv6⟩ : LIs C (a.eval (.tmp 55)) w5 := by assumption
         refine Gt.ok_run ?_ rfl
         simp only [execOp, resolve, List.map_toArray, List.map_cons, List.map_nil, hv6]
         go_simp
         done)
      | (refine Gt.ok_call (f := 26) rfl #[.pointer (some ⟨u2.heap.size, 0, none⟩), pv (n : Int) (t : Int) (k : Int) (e : Int) (r : Int), .int .i64 (C : Int), .slice A3 M c3] (by kernel_rfl) (by simp [*]) ((dzeros_no n t k e r hg0 u2.heap.size A3 c3 M C l3 HM3.out w5 (HF4.out.below hg' HF4.out.lt) ((HI3b.out.below hg').more hg'.size) HLEN3.out (by omega) (by omega)).mono ?_)
         rintro e w6 ⟨A9, c9, rfl, hb9⟩
         exact ⟨_, rfl, hb9, A9, c9, rfl⟩)
      | (obtain ⟨A6, c6, hv6⟩ : ZIs (a.eval (.tmp 49)) w5 := by assumption
         refine Gt.ok_run (v := .slice A6 0 c6) ?_ ⟨A6, c6, rfl⟩
         simp only [execOp, hv6]
         go_simp
         done)
      | (obtain ⟨A6, c6, hv6⟩ : ZIs (a.eval (.tmp 49)) w5 := by assumption
         refine Gt.ok_run (v := .bool false) ?_ rfl
         simp only [execOp, hv6]
         go_simp
         done)
      | (have z5 := HPB.out.below hg' HPL.out
         have z50 := z5.c0
         have z51 := z5.c1
         have z52 := z5.c2
         refine Gt.ok_run ?_ rfl
         simp only [execOp, *]
         go_simp
         done))
  · intro a w5 hg
    have hg' : Below u4.heap.size u4 w5 := hg
    simp only [Gt.Pre, Gt.tys, List.getD_cons_zero, List.getD_cons_succ, Gt.Is]
    intro h0 h1 h2 h3 h4 h5 h6 h7 h8 h9 h10 h11 h12 h13
    show K0 _ _
    refine hK0 _ _ ?_
    obtain ⟨Ay, cy, h12⟩ := h12
    obtain ⟨_, _, h10⟩ := h10
    obtain ⟨_, _, h5⟩ := h5
    simp only [Gt.puts, List.foldl_cons, List.foldl_nil, h0, h1, h2, h3, h4, h5, h6, h7, h10, h11, h12, h13]
    simp only [Act.put, List.setIfInBounds_toArray, List.set_cons_zero, List.set_cons_succ]
    have HB5 := Lib.hid (HB4.out.trans (hg'.mono HB4.out.size))
    have HF5 := Lib.hid (HF4.out.below hg' HF4.out.lt)
    have HPB5 := Lib.hid (HPB.out.below hg' HPL.out)
    have HPL5 := Lib.hid HPB5.out.lt
    have HI1w := Lib.hid ((wi1.below HB5.out).more HB5.out.size)
    have HI2w := Lib.hid ((wi2.below HB5.out).more HB5.out.size)
    have HI3w := Lib.hid ((wi3.below HB5.out).more HB5.out.size)
    clear h0 h1 h2 h3 h4 h5 h6 h7 h8 h9 h10 h11 h12 h13 HPB HPL
    clear hg' hg
    obtain ⟨u5, rfl⟩ : ∃ u5, u5 = w5 := ⟨_, rfl⟩
    go_wp2
    rename_i K00 hK00
    refine Gt.regionA [Gt.Is (.pointer (some ⟨u2.heap.size, 0, none⟩)), Gt.Is (pv (n : Int) (t : Int) (k : Int) (e : Int) (r : Int)), Gt.Is (.slice A1 N c1), Gt.Is (.slice A2 M c2), Gt.Is (.slice A3 M c3), OIs u5.heap.size M (xorL l2 l3), ZIs, ZIs, EIs, Gt.Is (.bool false), EIs, Gt.Is (.bool false)] 125
      [⟨[], [9], none⟩, ⟨[], [4], none⟩, ⟨[], [1], none⟩, ⟨[], [2], none⟩, ⟨[], [3], none⟩, ⟨[(3, 65), (4, 66)], [], none⟩, ⟨[(0, 62), (1, 63), (2, 64), (5, 67)], [], none⟩, ⟨[(6, 68)], [], none⟩, ⟨[(7, 61)], [], none⟩, ⟨[(7, 61)], [], none⟩, ⟨[(8, 69)], [], none⟩, ⟨[(9, 70)], [], none⟩]
      [(0, 62), (1, 63), (2, 64), (3, 65), (4, 66), (5, 67), (6, 68), (7, 61), (8, 69), (9, 70), (10, 14), (11, 15)] (by kernel_rfl) (by kernel_rfl) (by kernel_rfl) (by kernel_rfl) ?_ ?_ ?_
    · simp only [Gt.Monos]
      repeat' apply And.intro
      all_goals (first | exact trivial | exact Gt.Is.mono _ | exact OIs.mono _ _ _ | exact NIs.mono _ _ | exact FIs.mono | exact MIs.mono _ _ | exact TIs.mono _ _ | exact ZIs.mono | exact EIs.mono | exact LIs.mono _ | exact SIs.mono _ _ | exact GIs.mono _ _ _)
    · simp only [Gt.Obs]
      repeat' apply And.intro
      all_goals try exact trivial
      all_goals (
        intro a w5 hg
        have hg' : Below u5.heap.size u5 w5 := hg
        simp only [Gt.Pre, Gt.Kept, Gt.Guarded, Gt.tys, List.getD_cons_zero, List.getD_cons_succ, Gt.Is, Nat.zero_add, Nat.reduceAdd]
        intros
        try (refine ⟨fun _ => ?_, fun hne => absurd (by assumption) hne⟩))
      all_goals (first
        | exact Gt.ok_move rfl (by assumption)
        | exact Gt.ok_assign rfl (by assumption)
        | exact Gt.ok_pick rfl (by assumption) (by rw [if_pos rfl]; assumption)
        | (exact Gt.ok_load rfl (by assumption) (HPB5.out.below hg' HPL5.out).load rfl)
        | (refine Gt.ok_call (f := 35) rfl #[.slice A2 M c2, .slice A3 M c3] (by kernel_rfl) (by simp [*]) ((rxor_any A2 A3 c2 c3 M M l2 l3 HM2.out HM3.out w5 ((HI2w.out.below hg').more hg'.size) ((HI3w.out.below hg').more hg'.size) (by omega)).mono ?_)
           rintro e w6 ⟨A6, c6, rfl, ho6, hb6⟩
           exact ⟨_, rfl, hb6, A6, c6, rfl, ho6.base hg'.size⟩)
        | (obtain ⟨A6, c6, hv6, ho6⟩ : OIs u5.heap.size M (xorL l2 l3) (a.eval (.tmp 67)) w5 := by assumption
           refine Gt.ok_call (f := 20) rfl #[.pointer (some ⟨u2.heap.size, 0, none⟩), pv (n : Int) (t : Int) (k : Int) (e : Int) (r : Int), .slice A1 N c1, .slice A6 M c6] (by kernel_rfl) (by simp [*]) ((dshare_no n t k e r hg0 u2.heap.size A1 A6 c1 c6 N M C l1 (xorL l2 l3) HN.out HMX.out w5 (HF5.out.below hg' HF5.out.lt) ((HI1w.out.below hg').more hg'.size) ho6.inn HC.out HLENX.out (by omega) (by omega)).mono ?_)
           rintro e w6 ⟨A9, c9, rfl, hb9⟩
           exact ⟨_, rfl, hb9, A9, c9, rfl⟩)
        | (obtain ⟨A6, c6, hv6⟩ : ZIs (a.eval (.tmp 61)) w5 := by assumption
           refine Gt.ok_run (v := .slice A6 0 c6) ?_ ⟨A6, c6, rfl⟩
           simp only [execOp, hv6]
           go_simp
           done)
        | (obtain ⟨A6, c6, hv6⟩ : ZIs (a.eval (.tmp 61)) w5 := by assumption
           refine Gt.ok_run (v := .bool false) ?_ rfl
           simp only [execOp, hv6]
           go_simp
           done))
    · intro a w5 hg
      have hg' : Below u5.heap.size u5 w5 := hg
      simp only [Gt.Pre, Gt.tys, List.getD_cons_zero, List.getD_cons_succ, Gt.Is]
      intro h0 h1 h2 h3 h4 h5 h6 h7 h8 h9 h10 h11
      show K00 _ _
      refine hK00 _ _ ?_
      obtain ⟨Az, cz, h10⟩ := h10
      obtain ⟨_, _, h8⟩ := h8
      obtain ⟨_, _, h5, _⟩ := h5
      simp only [Gt.puts, List.foldl_cons, List.foldl_nil, h0, h1, h2, h3, h4, h5, h8, h9, h10, h11]
      simp only [Act.put, List.setIfInBounds_toArray, List.set_cons_zero, List.set_cons_succ]
      have HBL := Lib.hid (HB5.out.trans (hg'.mono HB5.out.size))
      clear h0 h1 h2 h3 h4 h5 h6 h7 h8 h9 h10 h11
      clear hg' hg
      go_wp2_with fail
      refine (answers_any _).mono ?_
      rintro e w6 ⟨rfl, hb6⟩
      go_wp2
      go_ret
      exact ⟨rfl, HBL.out.trans (hb6.mono HBL.out.size)⟩
      
    
set_option maxRecDepth 100000 in
set_option maxHeartbeats 1000000 in
theorem side_bad (a0 T0 K0 E0 R0 : Int) (A1 : Option Addr) (c1 N : Nat) (A2 : Option Addr) (c2 M : Nat) (A3 : Option Addr) (c3 M' : Nat) (w : World) (hbad : goodB a0 T0 K0 E0 R0 = false ∨ 30 < a0 ∨ 30 < N ∨ M ≠ M') :
    Calls Try.prog 10 #[pv a0 T0 K0 E0 R0, .slice A1 N c1, .slice A2 M c2, .slice A3 M' c3] w fun e w' => e = .returned (.bool true) ∧ Below w.heap.size w w' := by
  have hpb1 := Pbx.new w 23 a0 T0 K0 E0 R0
  have hb1 : Below w.heap.size w (w.alloc (.cells #[.int .i64 a0, .int .i64 T0, .int .i64 K0, .int .i64 E0, .int .i64 R0] 23)) := (Below.refl _ w).alloc (Nat.le_refl _) _
  have HG := Lib.hid (rgood_any a0 T0 K0 E0 R0 (w.alloc (.cells #[.int .i64 a0, .int .i64 T0, .int .i64 K0, .int .i64 E0, .int .i64 R0] 23)))
  cases hgb : goodB a0 T0 K0 E0 R0 with
  | false =>
    rw [hgb] at HG
    clear hbad hgb
    go_enter Try.func10, Try.ntmps10
    go_wp2_with fail
    refine HG.out.mono ?_
    rintro _ w2 ⟨rfl, hb2⟩
    have z0 := (hpb1.below hb2 hpb1.lt).c0
    have HB2 := Lib.hid (hb1.trans (hb2.mono hb1.size))
    clear hpb1 hb1 hb2 HG
    go_wp2_with fail
    refine (answers_any _).mono ?_
    rintro e w6 ⟨rfl, hb6⟩
    go_wp2
    go_ret
    exact ⟨rfl, HB2.out.trans (hb6.mono HB2.out.size)⟩
  | true =>
    rw [hgb] at HG hbad
    clear hgb
    by_cases ha : 30 < a0
    · clear hbad
      go_enter Try.func10, Try.ntmps10
      go_wp2_with fail
      refine HG.out.mono ?_
      rintro _ w2 ⟨rfl, hb2⟩
      have z0 := (hpb1.below hb2 hpb1.lt).c0
      have HB2 := Lib.hid (hb1.trans (hb2.mono hb1.size))
      clear hpb1 hb1 hb2 HG
      go_wp2_with fail
      refine (answers_any _).mono ?_
      rintro e w6 ⟨rfl, hb6⟩
      go_wp2
      go_ret
      exact ⟨rfl, HB2.out.trans (hb6.mono HB2.out.size)⟩
    · by_cases hN : 30 < N
      · clear hbad
        go_enter Try.func10, Try.ntmps10
        go_wp2_with fail
        refine HG.out.mono ?_
        rintro _ w2 ⟨rfl, hb2⟩
        have z0 := (hpb1.below hb2 hpb1.lt).c0
        have HB2 := Lib.hid (hb1.trans (hb2.mono hb1.size))
        clear hpb1 hb1 hb2 HG
        go_wp2_with fail
        refine (answers_any _).mono ?_
        rintro e w6 ⟨rfl, hb6⟩
        go_wp2
        go_ret
        exact ⟨rfl, HB2.out.trans (hb6.mono HB2.out.size)⟩
      · have hne : M ≠ M' := by
          rcases hbad with h | h | h | h
          · cases h
          · exact absurd h ha
          · exact absurd h hN
          · exact h
        have hm : ((M : Int) != (M' : Int)) = true := by rw [bne_iff_ne]; omega
        clear hbad hne
        go_enter Try.func10, Try.ntmps10
        go_wp2_with fail
        refine HG.out.mono ?_
        rintro _ w2 ⟨rfl, hb2⟩
        have z0 := (hpb1.below hb2 hpb1.lt).c0
        have HB2 := Lib.hid (hb1.trans (hb2.mono hb1.size))
        clear hpb1 hb1 hb2 HG
        go_wp2_with fail
        refine (answers_any _).mono ?_
        rintro e w6 ⟨rfl, hb6⟩
        go_wp2
        go_ret
        exact ⟨rfl, HB2.out.trans (hb6.mono HB2.out.size)⟩
theorem walk (a0 T0 K0 E0 R0 : Int) (A1 : Option Addr) (c1 : Nat) (l1 : List Nat) (A2 : Option Addr) (c2 : Nat) (l2 : List Nat) (A3 : Option Addr) (c3 : Nat) (l3 : List Nat) (w : World) (_w0 : (Lit.int .i64 a0).wf = true ∧ (Lit.int .i64 T0).wf = true ∧ (Lit.int .i64 K0).wf = true ∧ (Lit.int .i64 E0).wf = true ∧ (Lit.int .i64 R0).wf = true) (w1 : In w w.heap.size A1 c1 l1) (_s1 : c1 ≤ 140737488351232) (w2 : In w w.heap.size A2 c2 l2) (s2 : c2 ≤ 140737488351232) (w3 : In w w.heap.size A3 c3 l3) (_s3 : c3 ≤ 140737488351232) :
    Calls Try.prog 10 #[pv a0 T0 K0 E0 R0, .slice A1 l1.length c1, .slice A2 l2.length c2, .slice A3 l3.length c3] w fun e w' => e = .returned (.bool true) ∧ Below w.heap.size w w' := by
  have hc2 := w2.cap
  by_cases hbad : goodB a0 T0 K0 E0 R0 = false ∨ 30 < a0 ∨ 30 < l1.length ∨ l2.length ≠ l3.length
  · exact side_bad a0 T0 K0 E0 R0 A1 c1 l1.length A2 c2 l2.length A3 c3 l3.length w hbad
  · have hg : goodB a0 T0 K0 E0 R0 = true := by
      cases h : goodB a0 T0 K0 E0 R0 with
      | true => rfl
      | false => exact absurd (.inl h) hbad
    obtain ⟨n, t, k, e, r, rfl, rfl, rfl, rfl, rfl, h1, h2, h3, h4, h5, h6⟩ := goodB_nat hg
    have hn : n ≤ 30 := by omega
    have hN : l1.length ≤ 30 := by omega
    have hll : l2.length = l3.length := by omega
    rw [← hll]
    by_cases hlen : l2.length = t * Sp.cnt l1.length k
    · exact side_yes n t k e r h1 h2 h5 hg hn A1 c1 _ l1 A2 c2 _ l2 A3 c3 l3 w rfl hN rfl hll (by omega) w1 w2 w3 _ rfl hlen
    · exact side_no n t k e r h1 h2 h5 hg hn A1 c1 _ l1 A2 c2 _ l2 A3 c3 l3 w rfl hN rfl hll (by omega) w1 w2 w3 _ rfl hlen

set_option maxRecDepth 100000 in
theorem lifted (os : Os) (started : os.Started) (H : Type) (enc : TypeId × Value → H) :
    ReturnsInHanded {} Try.checked os 10 .any (Rows.dealZerosSpec.pre6 enc Try.prog Try.f10 Rows.dealZerosRow.domain false) (Rows.dealZerosSpec.post enc Try.prog Try.f10 false true false false) := by
  refine returnsInHanded_of_change_sized (C := Try.checked) own started (by kernel_rfl) Try.func10
    (ChangeSpec.witness6 (enc := enc) (C := Try.checked) false ⟨#[], #[.agg #[.int .i64 0, .int .i64 0, .int .i64 0, .int .i64 0, .int .i64 0], .slice none 0 0, .slice none 0 0, .slice none 0 0], []⟩ 8 (by kernel_rfl) (by kernel_rfl) (by kernel_rfl) (by kernel_rfl)) ?_
  intro W base args ds gs before hval0 hW _hcnd hsz0 _
  have hval : ∀ (j : Nat) t v, Try.f10.params[j]? = some t → args[j]? = some v → Value.okWide Try.prog W .any base t v := hval0
  have hW' := hW
  obtain ⟨p, q, hA0, hV, rfl, _hfz, _hnd⟩ := hW
  have hA : DataW.TrodAll enc Try.prog W 0 (fun _ => true) true Try.f10.params.toList args.toList ds p := hA0
  have hsz : (DataW.weightsEach Try.prog (Try.f10.params.toList ++ Rows.dealZerosSpec.plain.varTypes Try.prog) (ds ++ gs)).all (· ≤ reachBytes) = true := hsz0
  rw [Try.params10] at hA hval hsz
  obtain ⟨v0, vs0, d0, ds0, p0, q0, hargs, rfl, rfl, h0, r0⟩ := trodAll_cons hA
  obtain ⟨v1, vs1, d1, ds1, p1, q1, rfl, rfl, rfl, h1, r1⟩ := trodAll_cons r0
  obtain ⟨v2, vs2, d2, ds2, p2, q2, rfl, rfl, rfl, h2, r2⟩ := trodAll_cons r1
  obtain ⟨v3, vs3, d3, ds3, p3, q3, rfl, rfl, rfl, h3, r3⟩ := trodAll_cons r2
  obtain ⟨rfl, rfl, rfl⟩ := trodAll_nil r3
  obtain rfl : args = #[v0, v1, v2, v3] := by cases args; simp_all
  obtain ⟨rfl, rfl⟩ := trodVars_none hV
  obtain ⟨a0, T0, K0, E0, R0, rfl, rfl, rfl, w0⟩ := open_five Try.underlying23 (by kernel_rfl) (by kernel_rfl) rfl rfl rfl rfl rfl Try.underlying3 (hval 0 23 v0 rfl rfl) h0
  have k1 := h1
  have lt1 : ∀ x ∈ p1, x.block < W.heap.size := by obtain ⟨m, hm⟩ := k1; exact DataW.trod_lt m _ _ _ hm
  obtain ⟨A1, c1, l1, rfl, w1, sz1⟩ := open_bytes Try.underlying28 Try.underlying5 (by kernel_rfl) (hval 1 28 v1 rfl rfl) h1
  have s1 := sized_bytes hsz (j := 1) (t := 28) (e := 5) rfl rfl Try.underlying28 (by kernel_rfl) sz1
  have k2 := h2
  have lt2 : ∀ x ∈ p2, x.block < W.heap.size := by obtain ⟨m, hm⟩ := k2; exact DataW.trod_lt m _ _ _ hm
  obtain ⟨A2, c2, l2, rfl, w2, sz2⟩ := open_bytes Try.underlying28 Try.underlying5 (by kernel_rfl) (hval 2 28 v2 rfl rfl) h2
  have s2 := sized_bytes hsz (j := 2) (t := 28) (e := 5) rfl rfl Try.underlying28 (by kernel_rfl) sz2
  have k3 := h3
  have lt3 : ∀ x ∈ p3, x.block < W.heap.size := by obtain ⟨m, hm⟩ := k3; exact DataW.trod_lt m _ _ _ hm
  obtain ⟨A3, c3, l3, rfl, w3, sz3⟩ := open_bytes Try.underlying28 Try.underlying5 (by kernel_rfl) (hval 3 28 v3 rfl rfl) h3
  have s3 := sized_bytes hsz (j := 3) (t := 28) (e := 5) rfl rfl Try.underlying28 (by kernel_rfl) sz3
  clear hA0 hval0 hsz0 hsz
  refine (walk a0 T0 K0 E0 R0 A1 c1 l1 A2 c2 l2 A3 c3 l3 W w0 w1 s1 w2 s2 w3 s3).mono fun e W' ⟨he, bel⟩ => ?_
  subst he
  exact ⟨_, rfl, _, _, _, [], _, [], hW', trodAll_mk1 (shut_bool Try.underlying4 _), (trodAll_cons_mk (shut_five Try.underlying23 (by kernel_rfl) (by kernel_rfl) rfl rfl rfl rfl rfl Try.underlying3 w0) (trodAll_cons_mk (Below.trod laidOut (by kernel_rfl) (of_decide_eq_true (by kernel_rfl)) k1 bel lt1) (trodAll_cons_mk (Below.trod laidOut (by kernel_rfl) (of_decide_eq_true (by kernel_rfl)) k2 bel lt2) (trodAll_cons_mk (Below.trod laidOut (by kernel_rfl) (of_decide_eq_true (by kernel_rfl)) k3 bel lt3) trodAll_mk0)))), rfl, bel.frame _, fun h => by cases h⟩

theorem over : Rows.dealZerosRow.holds Try.pinned (OpenSpec.ofChange Rows.dealZerosSpec) :=
  OpenClaim.holds_of_wide 10 Try.f10 rfl rfl rfl rfl rfl rfl rfl ⟨rfl, rfl, rfl, rfl, rfl⟩ rfl rfl rfl rfl rfl (by kernel_rfl) Try.func10 (by kernel_rfl)
    (of_decide_eq_true (by kernel_rfl)) (by unfold Func.isWrapper; first | (rw [if_pos (by decide +kernel)]; kernel_rfl) | (rw [if_neg (by decide +kernel)]; exact ⟨rfl, rfl⟩))
    (fun os started H enc _ => lifted os started H enc)

end Go.Proofs.Ytaknffdokkfmgaa.dealZeros
namespace Go.Proofs.Ytaknffdokkfmgaa
/-- The statement. -/
theorem dealZeros_holds : Rows.DealZerosSaid := dealZeros.over
#print axioms dealZeros_holds
end Go.Proofs.Ytaknffdokkfmgaa

