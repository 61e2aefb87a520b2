/- For every input DealSums returns true, and every argument reads behind the call as it did before: no condition. -/
import Derived.ProofKit
import Derived.OpenShut
import Derived.SizedLaws
import Derived.ChangeOld
import Derived.Carry
import Derived.Test.YtaknffdokkfmgaaRows
import Derived.Test.YtaknffdokkfmgaaJ2
import Derived.Test.YtaknffdokkfmgaaJ5
import Derived.Test.YtaknffdokkfmgaaJ14
namespace Go.Proofs.Ytaknffdokkfmgaa.dealSums
open Go.ChangeShapes Go.WideShapes Go.ChangeAt Go.RowKit Go.Shelf Gw Pol

theorem own : ownKnob Try.prog.godebug = none := by kernel_rfl
theorem laidOut : laidOutB Try.prog = true := by kernel_rfl
set_option maxRecDepth 100000 in
set_option maxHeartbeats 4000000 in
theorem side_yes (n t k e r : Nat) (hg0 : goodB n t k e r = true) (hn30 : n ≤ 30) (q C : Nat) (hqC : C = q % 10) (hq : q < 256) (A2 : Option Addr) (c2 M : Nat) (l2 : List Nat) (A3 : Option Addr) (c3 : Nat) (l3 : List Nat) (w : World) (hM2 : M = l2.length) (hM3 : M = l3.length) (hMb : M ≤ 140737488351232) (wi2 : In w w.heap.size A2 c2 l2) (wi3 : In w w.heap.size A3 c3 l3) (hlen : M = (t + k) * C) :
    Calls Try.prog 9 #[pv n t k e r, .int .u8 (q : Int), .slice A2 M c2, .slice A3 M c3] w fun e w' => e = .returned (.bool true) ∧ Below w.heap.size w w' := by
  obtain ⟨i0, hi0, hz0, hz1, hz2⟩ := info_parts byte_info
  have hC9 : C ≤ 9 := by omega
  have eC : (q : Int) % 10 = (C : Int) := by omega
  have eCw : IntKind.u8.wrap (C : Int) = (C : Int) := wrap_byte (by omega)
  have HLEN2 := Lib.hid (show l2.length = (t + k) * C by rw [← hM2]; exact hlen)
  have HLEN3 := Lib.hid (show l3.length = (t + k) * C by rw [← hM3]; exact hlen)
  have HLENX := Lib.hid (show (xorL l2 l3).length = (t + k) * C by rw [xorL_len, ← hM2]; exact hlen)
  have HMX := Lib.hid (show M = (xorL l2 l3).length by rw [xorL_len]; exact hM2)
  have HM2 := Lib.hid hM2
  have HM3 := Lib.hid hM3
  have hpb1 := Pbx.new w 23 n t k e r
  have hb1 : Below w.heap.size w (w.alloc (.cells #[.int .i64 (n : Int), .int .i64 (t : Int), .int .i64 (k : Int), .int .i64 (e : Int), .int .i64 (r : Int)] 23)) := (Below.refl _ w).alloc (Nat.le_refl _) _
  have HG := Lib.hid (rgood_any n t k e r (w.alloc (.cells #[.int .i64 (n : Int), .int .i64 (t : Int), .int .i64 (k : Int), .int .i64 (e : Int), .int .i64 (r : Int)] 23)))
  rw [hg0] at HG
  clear hM2 hM3 hlen hqC
  go_enter Try.func9, Try.ntmps9
  go_wp2_with fail
  refine HG.out.mono ?_
  rintro _ u2 ⟨rfl, hb2⟩
  have HP2 := Lib.hid (hpb1.below hb2 hpb1.lt)
  have HB2 := Lib.hid (hb1.trans (hb2.mono hb1.size))
  clear hpb1 hb1 hb2 HG
  obtain ⟨y0, y1, y2, y3, y4⟩ := HP2.out
  go_wp2_with fail
  refine (new_any u2).mono ?_
  rintro _ u3 ⟨rfl, hF3, hb3⟩
  have HP3 := Lib.hid (HP2.out.below hb3 HP2.out.lt)
  have HB3 := Lib.hid (HB2.out.trans (hb3.mono HB2.out.size))
  have HF3 := Lib.hid hF3
  clear y0 y1 y2 y3 y4 hb3 hF3
  obtain ⟨y0, y1, y2, y3, y4⟩ := HP3.out
  have HI2a := Lib.hid ((wi2.below HB3.out).more HB3.out.size)
  go_wp2_with fail
  refine (dmasks_yes n t k e r hg0 u2.heap.size A2 c2 M C l2 HM2.out u3 HF3.out HI2a.out HLEN2.out (by omega)).mono ?_
  rintro _ u4 ⟨Ax, cx, px, qx, rfl, hX, hb4⟩
  have HP4 := Lib.hid (HP3.out.below hb4 HP3.out.lt)
  have HB4 := Lib.hid (HB3.out.trans (hb4.mono HB3.out.size))
  have HF4 := Lib.hid (HF3.out.below hb4 HF3.out.lt)
  have HI3a := Lib.hid ((wi3.below HB4.out).more HB4.out.size)
  have HX4 := Lib.hid hX
  clear hX
  clear y0 y1 y2 y3 y4 hb4
  obtain ⟨y0, y1, y2, y3, y4⟩ := HP4.out
  go_wp2_with fail
  refine (dmasks_yes n t k e r hg0 u2.heap.size A3 c3 M C l3 HM3.out u4 HF4.out HI3a.out HLEN3.out (by omega)).mono ?_
  rintro _ u5 ⟨Ay, cy, py, qy, rfl, hY, hb5⟩
  have HPB := Lib.hid (HP4.out.below hb5 HP4.out.lt)
  have HPL := Lib.hid HPB.out.lt
  have HB5 := Lib.hid (HB4.out.trans (hb5.mono HB4.out.size))
  have HF5 := Lib.hid (HF4.out.below hb5 HF4.out.lt)
  have HI2w := Lib.hid ((wi2.below HB5.out).more HB5.out.size)
  have HI3w := Lib.hid ((wi3.below HB5.out).more HB5.out.size)
  have HX5 := Lib.hid ((HX4.out.below hb5).more hb5.size)
  have HY5 := Lib.hid hY
  clear hY HX4
  clear y0 y1 y2 y3 y4 hb5
  go_wp2
  rename_i K0 hK0
  refine Gt.regionA [Gt.Is (.pointer (some ⟨u2.heap.size, 0, none⟩)), Gt.Is (pv (n : Int) (t : Int) (k : Int) (e : Int) (r : Int)), Gt.Is (.int .i64 (C : Int)), Gt.Is (.slice A2 M c2), Gt.Is (.slice A3 M c3), OIs u5.heap.size M (xorL l2 l3), TIs n (shRow (timL [1] (xorL l2 l3) (t + k)) C), TIs n (shRow (timL [1] (xorL l2 l3) (t + k)) C), MIs n (shRow (timL [1] (xorL l2 l3) (t + k)) C), Gt.Is (.bool true), MIs n (shRow (timL [1] (xorL l2 l3) (t + k)) C), Gt.Is (.bool true)] 138
    [⟨[], [10], none⟩, ⟨[], [4], none⟩, ⟨[], [9], none⟩, ⟨[], [2], none⟩, ⟨[], [3], none⟩, ⟨[(3, 62), (4, 63)], [], none⟩, ⟨[(0, 59), (1, 60), (2, 61), (5, 64)], [], none⟩, ⟨[(6, 65)], [], none⟩, ⟨[(7, 58)], [], none⟩, ⟨[(7, 58)], [], none⟩, ⟨[(8, 66)], [], none⟩, ⟨[(9, 67)], [], none⟩]
    [(0, 59), (1, 60), (2, 61), (3, 62), (4, 63), (5, 64), (6, 65), (7, 58), (8, 66), (9, 67), (10, 15), (11, 16)] (by kernel_rfl) (by kernel_rfl) (by kernel_rfl) (by kernel_rfl) ?_ ?_ ?_
  · simp only [Gt.Monos]
    repeat' apply And.intro
    all_goals (first | exact trivial | exact Gt.Is.mono _ | exact OIs.mono _ _ _ | exact NIs.mono _ _ | exact FIs.mono | exact MIs.mono _ _ | exact TIs.mono _ _ | exact ZIs.mono | exact EIs.mono | exact LIs.mono _ | exact SIs.mono _ _ | exact GIs.mono _ _ _)
  · simp only [Gt.Obs]
    repeat' apply And.intro
    all_goals try exact trivial
    all_goals (
      intro a w5 hg
      have hg' : Below u5.heap.size u5 w5 := hg
      simp only [Gt.Pre, Gt.Kept, Gt.Guarded, Gt.tys, List.getD_cons_zero, List.getD_cons_succ, Gt.Is, Nat.zero_add, Nat.reduceAdd]
      intros
      try (refine ⟨fun _ => ?_, fun hne => absurd (by assumption) hne⟩))
    all_goals (first
      | exact Gt.ok_move rfl (by assumption)
      | exact Gt.ok_assign rfl (by assumption)
      | exact Gt.ok_pick rfl (by assumption) (by rw [if_pos rfl]; assumption)
      | (exact Gt.ok_load rfl (by assumption) (HPB.out.below hg' HPL.out).load rfl)
      | (refine Gt.ok_call (f := 35) rfl #[.slice A2 M c2, .slice A3 M c3] (by kernel_rfl) (by simp [*]) ((rxor_any A2 A3 c2 c3 M M l2 l3 HM2.out HM3.out w5 ((HI2w.out.below hg').more hg'.size) ((HI3w.out.below hg').more hg'.size) (by omega)).mono ?_)
         rintro e w6 ⟨A6, c6, rfl, ho6, hb6⟩
         exact ⟨_, rfl, hb6, A6, c6, rfl, ho6.base hg'.size⟩)
      | (obtain ⟨A6, c6, hv6, ho6⟩ : OIs u5.heap.size M (xorL l2 l3) (a.eval (.tmp 64)) w5 := by assumption
         refine Gt.ok_call (f := 28) rfl #[.pointer (some ⟨u2.heap.size, 0, none⟩), pv (n : Int) (t : Int) (k : Int) (e : Int) (r : Int), .int .i64 (C : Int), .slice A6 M c6] (by kernel_rfl) (by simp [*]) ((dmasks_yes n t k e r hg0 u2.heap.size A6 c6 M C (xorL l2 l3) HMX.out w5 (HF5.out.below hg' HF5.out.lt) ho6.inn HLENX.out (by omega)).mono ?_)
         rintro e w6 ⟨A9, c9, pa9, cp9, rfl, hM9, hb9⟩
         exact ⟨_, rfl, hb9, A9, c9, pa9, cp9, rfl, hM9⟩)
      | (obtain ⟨A6, c6, pa6, cp6, hv6, hM6⟩ : TIs n (shRow (timL [1] (xorL l2 l3) (t + k)) C) (a.eval (.tmp 58)) w5 := by assumption
         refine Gt.ok_run (v := .slice A6 n c6) ?_ ⟨A6, c6, pa6, cp6, rfl, hM6⟩
         simp only [execOp, hv6]
         go_simp
         done)
      | (obtain ⟨A6, c6, pa6, cp6, hv6, hM6⟩ : TIs n (shRow (timL [1] (xorL l2 l3) (t + k)) C) (a.eval (.tmp 58)) w5 := by assumption
         refine Gt.ok_run (v := .bool true) ?_ rfl
         simp only [execOp, hv6]
         go_simp
         done))
  · intro a w5 hg
    have hg' : Below u5.heap.size u5 w5 := hg
    simp only [Gt.Pre, Gt.tys, List.getD_cons_zero, List.getD_cons_succ, Gt.Is]
    intro h0 h1 h2 h3 h4 h5 h6 h7 h8 h9 h10 h11
    show K0 _ _
    refine hK0 _ _ ?_
    obtain ⟨Az, cz, pz, qz, h10, hZ⟩ := h10
    obtain ⟨_, _, _, _, h8, _⟩ := h8
    obtain ⟨_, _, h5, _⟩ := h5
    simp only [Gt.puts, List.foldl_cons, List.foldl_nil, h0, h1, h2, h3, h4, h5, h8, h9, h10, h11]
    simp only [Act.put, List.setIfInBounds_toArray, List.set_cons_zero, List.set_cons_succ]
    have HBL := Lib.hid (HB5.out.trans (hg'.mono HB5.out.size))
    clear h0 h1 h2 h3 h4 h5 h6 h7 h8 h9 h10 h11
    have HPB2 := Lib.hid (HPB.out.below hg' HPL.out)
    have HX := Lib.hid ((HX5.out.below hg').more hg'.size)
    have HY := Lib.hid ((HY5.out.below hg').more hg'.size)
    have HZ := Lib.hid hZ
    obtain ⟨lx, hlx⟩ : ∃ l, l = shRow (timL [1] l2 (t + k)) C := ⟨_, rfl⟩
    obtain ⟨ly, hly⟩ : ∃ l, l = shRow (timL [1] l3 (t + k)) C := ⟨_, rfl⟩
    obtain ⟨lz, hlz⟩ : ∃ l, l = shRow (timL [1] (xorL l2 l3) (t + k)) C := ⟨_, rfl⟩
    have HEQ := Lib.hid (show ∀ h, h < n → xorL (lx h) (ly h) = lz h from fun h hh => by
      rw [hlx, hly, hlz]; exact sum_times (fun y hy => by simp at hy; omega) wi2.bb wi3.bb (by rw [← HM2.out, ← HM3.out]) (by omega) _ _)
    have HCX := Lib.hid (show ∀ h, (lx h).length = C from fun h => by rw [hlx, shRow_len])
    have HCY := Lib.hid (show ∀ h, (ly h).length = C from fun h => by rw [hly, shRow_len])
    have HCZ := Lib.hid (show ∀ h, (lz h).length = C from fun h => by rw [hlz, shRow_len])
    rw [← hlx] at HX
    rw [← hly] at HY
    rw [← hlz] at HZ
    clear hZ HX5 HY5 HPB HPL hlx hly hlz hg' hg
    have HPB := HPB2
    clear HPB2
    obtain ⟨wL, rfl⟩ : ∃ wL, wL = w5 := ⟨_, rfl⟩
    go_wp2
    go_loopw [17] (LpRel wL n) (fun i _ => n - (intOf i).toNat)
    case atStart => exact ⟨0, Nat.zero_le _, rfl, Below.refl _ _⟩
    case round =>
      obtain ⟨h, hh0, rfl, hbr⟩ := hrel
      have z0 := (HPB.out.below hbr HPB.out.lt).c0
      by_cases hh : h < n
      · have hhi : (h : Int) < (n : Int) := by omega
        have hbs := hbr.size
        obtain ⟨bx, ox, hAx, hlx, hkx, hix⟩ := (HX.out.below hbr).rd h hh
        obtain ⟨by_, oy, hAy, hly, hky, hiy⟩ := (HY.out.below hbr).rd h hh
        obtain ⟨bz, oz, hAz, hlz, hkz, hiz⟩ := (HZ.out.below hbr).rd h hh
        subst hAx hAy hAz
        rw [HCX.out h] at hkx
        rw [HCY.out h] at hky
        rw [HCZ.out h] at hkz
        have hcapx := HX.out.cap
        have hcapy := HY.out.cap
        have hcapz := HZ.out.cap
        obtain ⟨σ, hσ⟩ : ∃ σ, σ = str (lz h) := ⟨_, rfl⟩
        have HSG := Lib.hid hσ
        have HKX := Lib.hid hkx
        have HKY := Lib.hid hky
        have HKZ0 := Lib.hid hkz
        have HLX := Lib.hid (show bx < wr.heap.size by omega)
        have HLY := Lib.hid (show by_ < wr.heap.size by omega)
        have HLZ0 := Lib.hid (show bz < wr.heap.size by omega)
        have HIX := Lib.hid (hix.more hbs)
        have HIY := Lib.hid (hiy.more hbs)
        have HIZ0 := Lib.hid (hiz.more hbs)
        have HBR := Lib.hid hbr
        clear hkx hky hkz hix hiy hiz hbr hσ hlx hly hlz
        go_wp2
        clear z0
        rename_i K1 hK1
        refine Gt.regionA [Gt.Is (.slice (some ⟨bx, ox, none⟩) n cx), Gt.Is (.int .i64 (h : Int)), Gt.Is (.pointer (some ⟨bx, ox + h, none⟩)), Gt.Is (.slice (px h) C (qx h)), Gt.Is (.slice (some ⟨by_, oy, none⟩) n cy), Gt.Is (.int .i64 (h : Int)), Gt.Is (.pointer (some ⟨by_, oy + h, none⟩)), Gt.Is (.slice (py h) C (qy h)), SIs C (lz h), SIs C (lz h), NIs C (lz h), Gt.Is (.bool true), NIs C (lz h), Gt.Is (.bool true)] 138
          [⟨[], [11], none⟩, ⟨[], [17], none⟩, ⟨[(0, 98), (1, 99)], [], none⟩, ⟨[(2, 100)], [], none⟩, ⟨[], [13], none⟩, ⟨[], [17], none⟩, ⟨[(4, 102), (5, 103)], [], none⟩, ⟨[(6, 104)], [], none⟩, ⟨[(3, 101), (7, 105)], [], none⟩, ⟨[(8, 106)], [], none⟩, ⟨[(9, 97)], [], none⟩, ⟨[(9, 97)], [], none⟩, ⟨[(10, 107)], [], none⟩, ⟨[(11, 108)], [], none⟩]
          [(0, 98), (1, 99), (2, 100), (3, 101), (4, 102), (5, 103), (6, 104), (7, 105), (8, 106), (9, 97), (10, 107), (11, 108), (12, 18), (13, 19)] (by kernel_rfl) (by kernel_rfl) (by kernel_rfl) (by kernel_rfl) ?_ ?_ ?_
        · simp only [Gt.Monos]
          repeat' apply And.intro
          all_goals (first | exact trivial | exact Gt.Is.mono _ | exact OIs.mono _ _ _ | exact NIs.mono _ _ | exact FIs.mono | exact MIs.mono _ _ | exact TIs.mono _ _ | exact ZIs.mono | exact EIs.mono | exact LIs.mono _ | exact SIs.mono _ _ | exact GIs.mono _ _ _)
        · simp only [Gt.Obs]
          repeat' apply And.intro
          all_goals try exact trivial
          all_goals (
            intro a w5 hg
            have hg' : Below wr.heap.size wr w5 := hg
            simp only [Gt.Pre, Gt.Kept, Gt.Guarded, Gt.tys, List.getD_cons_zero, List.getD_cons_succ, Gt.Is, Nat.zero_add, Nat.reduceAdd]
            intros
            try (refine ⟨fun _ => ?_, fun hne => absurd (by assumption) hne⟩))
          all_goals (first
            | exact Gt.ok_move rfl (by assumption)
            | exact Gt.ok_assign rfl (by assumption)
            | exact Gt.ok_pick rfl (by assumption) (by rw [if_pos rfl]; assumption)
            | (refine Gt.ok_call (f := 36) rfl #[.slice (px h) C (qx h), .slice (py h) C (qy h)] (by kernel_rfl) (by simp [*]) ((dsum_yes (px h) (py h) (qx h) (qy h) C (lx h) (ly h) (HCX.out h).symm (HCY.out h).symm w5 ((HIX.out.below hg').more hg'.size) ((HIY.out.below hg').more hg'.size) (by omega)).mono ?_)
               rintro e w6 ⟨A6, c6, rfl, hI6, hb6⟩
               rw [HEQ.out h hh] at hI6
               exact ⟨_, rfl, hb6, A6, c6, rfl, hI6⟩)
            | (obtain ⟨A6, c6, hv6, hI6⟩ : SIs C (lz h) (a.eval (.tmp 97)) w5 := by assumption
               refine Gt.ok_run (v := .slice A6 C c6) ?_ ⟨A6, c6, rfl, hI6⟩
               simp only [execOp, hv6]
               go_simp
               done)
            | (obtain ⟨A6, c6, hv6, hI6⟩ : SIs C (lz h) (a.eval (.tmp 97)) w5 := by assumption
               refine Gt.ok_run (v := .bool true) ?_ rfl
               simp only [execOp, hv6]
               go_simp
               done)
            | (have k5 := (hg'.cell (p := ⟨bx, ox + h, none⟩) HLX.out).trans HKX.out
               have k6 := (hg'.cell (p := ⟨by_, oy + h, none⟩) HLY.out).trans HKY.out
               refine Gt.ok_run ?_ rfl
               simp only [execOp, *]
               go_simp
               done))
        · intro a w5 hg
          have hg' : Below wr.heap.size wr w5 := hg
          simp only [Gt.Pre, Gt.tys, List.getD_cons_zero, List.getD_cons_succ, Gt.Is]
          intro h0 h1 h2 h3 h4 h5 h6 h7 h8 h9 h10 h11 h12 h13
          show K1 _ _
          refine hK1 _ _ ?_
          obtain ⟨As, cs, h12, hIs⟩ := h12
          obtain ⟨_, _, h10, _⟩ := h10
          simp only [Gt.puts, List.foldl_cons, List.foldl_nil, h0, h1, h2, h3, h4, h5, h6, h7, h10, h11, h12, h13]
          simp only [Act.put, List.setIfInBounds_toArray, List.set_cons_zero, List.set_cons_succ]
          have HIS := Lib.hid hIs
          have HBR2 := Lib.hid (HBR.out.trans (hg'.mono HBR.out.size))
          have HIZ := Lib.hid ((HIZ0.out.below hg').more hg'.size)
          have HKZ := Lib.hid ((hg'.cell (p := ⟨bz, oz + h, none⟩) HLZ0.out).trans HKZ0.out)
          have HLZ := Lib.hid (Nat.lt_of_lt_of_le HLZ0.out hg'.size)
          clear h0 h1 h2 h3 h4 h5 h6 h7 h8 h9 h10 h11 h12 h13 hIs HIX HIY HKX HKY HLX HLY HIZ0 HKZ0 HLZ0 HBR
          clear hg' hg
          obtain ⟨w7, rfl⟩ : ∃ w7, w7 = w5 := ⟨_, rfl⟩
          go_wp2
          rename_i K2 hK2
          refine Gt.regionA [Gt.Is (.bool true), Gt.Is (.bool false), Gt.Is (.bool false), Gt.Is (.slice As C cs), Gt.Is (.string σ), Gt.Is (.slice (some ⟨bz, oz, none⟩) n cz), Gt.Is (.int .i64 (h : Int)), Gt.Is (.pointer (some ⟨bz, oz + h, none⟩)), Gt.Is (.slice (pz h) C (qz h)), Gt.Is (.string σ), Gt.Is (.bool false), Gt.Is (.bool false)] 138
            [⟨[], [19], none⟩, ⟨[(0, 109)], [], none⟩, ⟨[(1, 110)], [], none⟩, ⟨[(2, 111)], [18], some (111, false)⟩, ⟨[(2, 111), (3, 112)], [], some (111, false)⟩, ⟨[(2, 111)], [15], some (111, false)⟩, ⟨[(2, 111)], [17], some (111, false)⟩, ⟨[(2, 111), (5, 114), (6, 115)], [], some (111, false)⟩, ⟨[(2, 111), (7, 116)], [], some (111, false)⟩, ⟨[(2, 111), (8, 117)], [], some (111, false)⟩, ⟨[(2, 111), (4, 113), (9, 118)], [], some (111, false)⟩, ⟨[(2, 111), (10, 119)], [], none⟩]
            [(0, 109), (1, 110), (2, 111), (3, 112), (4, 113), (5, 114), (6, 115), (7, 116), (8, 117), (9, 118), (10, 119), (11, 120)] (by kernel_rfl) (by kernel_rfl) (by kernel_rfl) (by kernel_rfl) ?_ ?_ ?_
          · simp only [Gt.Monos]
            repeat' apply And.intro
            all_goals (first | exact trivial | exact Gt.Is.mono _ | exact OIs.mono _ _ _ | exact NIs.mono _ _ | exact FIs.mono | exact MIs.mono _ _ | exact TIs.mono _ _ | exact ZIs.mono | exact EIs.mono | exact LIs.mono _ | exact SIs.mono _ _ | exact GIs.mono _ _ _)
          · simp only [Gt.Obs]
            repeat' apply And.intro
            all_goals try exact trivial
            all_goals (
              intro a w5 hg
              have hg' : Below w7.heap.size w7 w5 := hg
              simp only [Gt.Pre, Gt.Kept, Gt.Guarded, Gt.tys, List.getD_cons_zero, List.getD_cons_succ, Gt.Is, Nat.zero_add, Nat.reduceAdd]
              intros
              try (refine ⟨fun _ => ?_, fun hne => absurd (by assumption) hne⟩))
            all_goals (first
              | exact Gt.ok_move rfl (by assumption)
              | exact Gt.ok_assign rfl (by assumption)
              | exact Gt.ok_pick rfl (by assumption) (by rw [if_pos rfl]; assumption)
              | (have k5 := conv_sl (P := Try.prog) (HIS.out.below hg').sl Try.underlying28 Try.underlying5 Try.underlying9 cs
                 rw [HCZ.out h, ← HSG.out] at k5
                 exact Gt.ok_convert rfl (by assumption) k5 rfl)
              | (have k5 := conv_sl (P := Try.prog) (HIZ.out.below hg').sl Try.underlying28 Try.underlying5 Try.underlying9 (qz h)
                 rw [HCZ.out h, ← HSG.out] at k5
                 exact Gt.ok_convert rfl (by assumption) k5 rfl)
              | (have k5 := (hg'.cell (p := ⟨bz, oz + h, none⟩) HLZ.out).trans HKZ.out
                 refine Gt.ok_run ?_ rfl
                 simp only [execOp, *]
                 go_simp
                 done))
          · intro a w5 hg
            have hg' : Below w7.heap.size w7 w5 := hg
            simp only [Gt.Pre, Gt.tys, List.getD_cons_zero, List.getD_cons_succ, Gt.Is]
            intro h0 h1 h2 h3 h4 h5 h6 h7 h8 h9 h10 h11
            show K2 _ _
            refine hK2 _ _ ?_
            simp only [Gt.puts, List.foldl_cons, List.foldl_nil, h0, h1, h2, h3, h4, h5, h6, h7, h8, h9, h10, h11]
            simp only [Act.put, List.setIfInBounds_toArray, List.set_cons_zero, List.set_cons_succ]
            have HBR3 := Lib.hid (HBR2.out.trans (hg'.mono HBR2.out.size))
            clear h0 h1 h2 h3 h4 h5 h6 h7 h8 h9 h10 h11
            clear hg' hg
            go_wp2
            go_roundw
            case rel => exact ⟨h + 1, by omega, by go_num, HBR3.out⟩
            case measure => simp [intOf]; omega
          
      · have hhn : ¬ (h : Int) < (n : Int) := by omega
        have HBW := Lib.hid (HBL.out.trans (hbr.mono HBL.out.size))
        have HI2f := Lib.hid ((wi2.below HBW.out).more HBW.out.size)
        have HI3f := Lib.hid ((wi3.below HBW.out).more HBW.out.size)
        have hnil2 := wi2.none_
        have hnil3 := wi3.none_
        have HO2 := Lib.hid (Own.lit0 wr wr.heap.size 5 (Nat.le_refl _))
        have HS2 := Lib.hid (HI2f.out.sl.alloc (Nat.le_refl _) (.cells #[] 5))
        clear hbr
        go_wp2_with (first
          | (at_builtin; refine wpList_app rfl (.tmp 122) (.tmp 123) 28 rfl wr.heap.size 5 i0 _ Try.underlying28 hi0 hz0 hz1 hz2 rfl (some ⟨wr.heap.size, 0, none⟩) 0 0 [] rfl rfl HO2.out wr.heap.size A2 M c2 l2 rfl HM2.out hnil2 HS2.out (by rw [← HM2.out]; simp; omega) (by rw [World.size_alloc]; omega) ?_
             intro A4 c4 x1 hown1 hgr1
             rw [List.nil_append] at hown1
             rw [List.nil_append, ← HM2.out]
             have hx1 : Below wr.heap.size wr x1 := below_lit' (Below.refl _ _) (Nat.le_refl _) hgr1
             have HOA := Lib.hid hown1
             have HO3 := Lib.hid (Own.lit0 x1 x1.heap.size 5 (Nat.le_refl _))
             have HS3 := Lib.hid (((HI3f.out.below hx1).more hx1.size).sl.alloc (Nat.le_refl _) (.cells #[] 5))
             clear hown1 hgr1)
          | (at_builtin; refine wpList_app rfl (.tmp 125) (.tmp 126) 28 rfl x1.heap.size 5 i0 _ Try.underlying28 hi0 hz0 hz1 hz2 rfl (some ⟨x1.heap.size, 0, none⟩) 0 0 [] rfl rfl HO3.out x1.heap.size A3 M c3 l3 rfl HM3.out hnil3 HS3.out (by rw [← HM3.out]; simp; omega) (by rw [World.size_alloc]; omega) ?_
             intro A5 c5 x2 hown2 hgr2
             rw [List.nil_append] at hown2
             rw [List.nil_append, ← HM3.out]
             have hx2 : Below x1.heap.size x1 x2 := below_lit' (Below.refl _ _) (Nat.le_refl _) hgr2
             have HOB := Lib.hid hown2
             have HOB2 := Lib.hid (hown2.alloc (.cells #[.int .u8 1] 5))
             have HS4 := Lib.hid (Sl.one x2 5 1 (by omega))
             have hxs2 := hx2.size
             clear hown2 hgr2)
          | (at_builtin; refine wpList_app rfl (.tmp 127) (.tmp 128) 28 rfl x1.heap.size 5 i0 _ Try.underlying28 hi0 hz0 hz1 hz2 rfl A5 M c5 l3 rfl HM3.out HOB2.out (x2.heap.size + 1) (some ⟨x2.heap.size, 0, none⟩) 1 1 [1] rfl rfl (fun h => by cases h) HS4.out (by rw [← HM3.out]; simp; omega) (by rw [World.size_alloc]; omega) ?_
             intro A6 c6 x3 hown3 hgr3
             have hx3 : Below x1.heap.size x1 x3 := below_app hx2 hx2.size HOB.out hgr3
             have HOC := Lib.hid hown3
             have HMM := Lib.hid (show M + 1 = (l3 ++ [1]).length by rw [List.length_append, ← HM3.out]; rfl)
             rw [← HMM.out]
             clear hown3 hgr3)
          | fail)
        refine (dsum_no A4 A6 c4 c6 M (M + 1) l2 (l3 ++ [1]) HM2.out HMM.out (by omega) x3 ((HOA.out.inn.below hx3).more hx3.size) HOC.out.inn (by omega) (by omega)).mono ?_
        rintro _ x4 ⟨A7, c7, rfl, hx4⟩
        have HBX := Lib.hid (HBW.out.trans ((hx1.mono HBW.out.size).trans ((hx3.mono (Nat.le_trans HBW.out.size hx1.size)).trans (hx4.mono (Nat.le_trans HBW.out.size (Nat.le_trans hx1.size hx3.size))))))
        clear hx1 hx2 hx3 hx4
        go_wp2_with fail
        refine (answers_any x4).mono ?_
        rintro _ x5 ⟨rfl, hx5⟩
        go_wp2
        go_ret
        exact ⟨rfl, HBX.out.trans (hx5.mono HBX.out.size)⟩
    
set_option maxRecDepth 100000 in
set_option maxHeartbeats 4000000 in
theorem side_no (n t k e r : Nat) (hg0 : goodB n t k e r = true) (hn30 : n ≤ 30) (q C : Nat) (hqC : C = q % 10) (hq : q < 256) (A2 : Option Addr) (c2 M : Nat) (l2 : List Nat) (A3 : Option Addr) (c3 : Nat) (l3 : List Nat) (w : World) (hM2 : M = l2.length) (hM3 : M = l3.length) (hMb : M ≤ 140737488351232) (wi2 : In w w.heap.size A2 c2 l2) (wi3 : In w w.heap.size A3 c3 l3) (hlen : M ≠ (t + k) * C) :
    Calls Try.prog 9 #[pv n t k e r, .int .u8 (q : Int), .slice A2 M c2, .slice A3 M c3] w fun e w' => e = .returned (.bool true) ∧ Below w.heap.size w w' := by
  have hC9 : C ≤ 9 := by omega
  have eC : (q : Int) % 10 = (C : Int) := by omega
  have eCw : IntKind.u8.wrap (C : Int) = (C : Int) := wrap_byte (by omega)
  have HLEN2 := Lib.hid (show l2.length ≠ (t + k) * C by rw [← hM2]; exact hlen)
  have HLEN3 := Lib.hid (show l3.length ≠ (t + k) * C by rw [← hM3]; exact hlen)
  have HLENX := Lib.hid (show (xorL l2 l3).length ≠ (t + k) * C by rw [xorL_len, ← hM2]; exact hlen)
  have HMX := Lib.hid (show M = (xorL l2 l3).length by rw [xorL_len]; exact hM2)
  have HM2 := Lib.hid hM2
  have HM3 := Lib.hid hM3
  have hpb1 := Pbx.new w 23 n t k e r
  have hb1 : Below w.heap.size w (w.alloc (.cells #[.int .i64 (n : Int), .int .i64 (t : Int), .int .i64 (k : Int), .int .i64 (e : Int), .int .i64 (r : Int)] 23)) := (Below.refl _ w).alloc (Nat.le_refl _) _
  have HG := Lib.hid (rgood_any n t k e r (w.alloc (.cells #[.int .i64 (n : Int), .int .i64 (t : Int), .int .i64 (k : Int), .int .i64 (e : Int), .int .i64 (r : Int)] 23)))
  rw [hg0] at HG
  clear hM2 hM3 hlen hqC
  go_enter Try.func9, Try.ntmps9
  go_wp2_with fail
  refine HG.out.mono ?_
  rintro _ u2 ⟨rfl, hb2⟩
  have HP2 := Lib.hid (hpb1.below hb2 hpb1.lt)
  have HB2 := Lib.hid (hb1.trans (hb2.mono hb1.size))
  clear hpb1 hb1 hb2 HG
  obtain ⟨y0, y1, y2, y3, y4⟩ := HP2.out
  go_wp2_with fail
  refine (new_any u2).mono ?_
  rintro _ u3 ⟨rfl, hF3, hb3⟩
  have HP3 := Lib.hid (HP2.out.below hb3 HP2.out.lt)
  have HB3 := Lib.hid (HB2.out.trans (hb3.mono HB2.out.size))
  have HF3 := Lib.hid hF3
  clear y0 y1 y2 y3 y4 hb3 hF3
  obtain ⟨y0, y1, y2, y3, y4⟩ := HP3.out
  have HI2a := Lib.hid ((wi2.below HB3.out).more HB3.out.size)
  go_wp2_with fail
  refine (dmasks_no n t k e r hg0 u2.heap.size A2 c2 M C l2 HM2.out u3 HF3.out HI2a.out HLEN2.out (by omega) (by omega)).mono ?_
  rintro _ u4 ⟨Ax, cx, rfl, hb4⟩
  have HP4 := Lib.hid (HP3.out.below hb4 HP3.out.lt)
  have HB4 := Lib.hid (HB3.out.trans (hb4.mono HB3.out.size))
  have HF4 := Lib.hid (HF3.out.below hb4 HF3.out.lt)
  have HI3a := Lib.hid ((wi3.below HB4.out).more HB4.out.size)
  clear y0 y1 y2 y3 y4 hb4
  obtain ⟨y0, y1, y2, y3, y4⟩ := HP4.out
  go_wp2_with fail
  refine (dmasks_no n t k e r hg0 u2.heap.size A3 c3 M C l3 HM3.out u4 HF4.out HI3a.out HLEN3.out (by omega) (by omega)).mono ?_
  rintro _ u5 ⟨Ay, cy, rfl, hb5⟩
  have HPB := Lib.hid (HP4.out.below hb5 HP4.out.lt)
  have HPL := Lib.hid HPB.out.lt
  have HB5 := Lib.hid (HB4.out.trans (hb5.mono HB4.out.size))
  have HF5 := Lib.hid (HF4.out.below hb5 HF4.out.lt)
  have HI2w := Lib.hid ((wi2.below HB5.out).more HB5.out.size)
  have HI3w := Lib.hid ((wi3.below HB5.out).more HB5.out.size)
  clear y0 y1 y2 y3 y4 hb5
  go_wp2
  rename_i K0 hK0
  refine Gt.regionA [Gt.Is (.pointer (some ⟨u2.heap.size, 0, none⟩)), Gt.Is (pv (n : Int) (t : Int) (k : Int) (e : Int) (r : Int)), Gt.Is (.int .i64 (C : Int)), Gt.Is (.slice A2 M c2), Gt.Is (.slice A3 M c3), OIs u5.heap.size M (xorL l2 l3), ZIs, ZIs, EIs, Gt.Is (.bool false), EIs, Gt.Is (.bool false)] 138
    [⟨[], [10], none⟩, ⟨[], [4], none⟩, ⟨[], [9], none⟩, ⟨[], [2], none⟩, ⟨[], [3], none⟩, ⟨[(3, 62), (4, 63)], [], none⟩, ⟨[(0, 59), (1, 60), (2, 61), (5, 64)], [], none⟩, ⟨[(6, 65)], [], none⟩, ⟨[(7, 58)], [], none⟩, ⟨[(7, 58)], [], none⟩, ⟨[(8, 66)], [], none⟩, ⟨[(9, 67)], [], none⟩]
    [(0, 59), (1, 60), (2, 61), (3, 62), (4, 63), (5, 64), (6, 65), (7, 58), (8, 66), (9, 67), (10, 15), (11, 16)] (by kernel_rfl) (by kernel_rfl) (by kernel_rfl) (by kernel_rfl) ?_ ?_ ?_
  · simp only [Gt.Monos]
    repeat' apply And.intro
    all_goals (first | exact trivial | exact Gt.Is.mono _ | exact OIs.mono _ _ _ | exact NIs.mono _ _ | exact FIs.mono | exact MIs.mono _ _ | exact TIs.mono _ _ | exact ZIs.mono | exact EIs.mono | exact LIs.mono _ | exact SIs.mono _ _ | exact GIs.mono _ _ _)
  · simp only [Gt.Obs]
    repeat' apply And.intro
    all_goals try exact trivial
    all_goals (
      intro a w5 hg
      have hg' : Below u5.heap.size u5 w5 := hg
      simp only [Gt.Pre, Gt.Kept, Gt.Guarded, Gt.tys, List.getD_cons_zero, List.getD_cons_succ, Gt.Is, Nat.zero_add, Nat.reduceAdd]
      intros
      try (refine ⟨fun _ => ?_, fun hne => absurd (by assumption) hne⟩))
    all_goals (first
      | exact Gt.ok_move rfl (by assumption)
      | exact Gt.ok_assign rfl (by assumption)
      | exact Gt.ok_pick rfl (by assumption) (by rw [if_pos rfl]; assumption)
      | (exact Gt.ok_load rfl (by assumption) (HPB.out.below hg' HPL.out).load rfl)
      | (refine Gt.ok_call (f := 35) rfl #[.slice A2 M c2, .slice A3 M c3] (by kernel_rfl) (by simp [*]) ((rxor_any A2 A3 c2 c3 M M l2 l3 HM2.out HM3.out w5 ((HI2w.out.below hg').more hg'.size) ((HI3w.out.below hg').more hg'.size) (by omega)).mono ?_)
         rintro e w6 ⟨A6, c6, rfl, ho6, hb6⟩
         exact ⟨_, rfl, hb6, A6, c6, rfl, ho6.base hg'.size⟩)
      | (obtain ⟨A6, c6, hv6, ho6⟩ : OIs u5.heap.size M (xorL l2 l3) (a.eval (.tmp 64)) w5 := by assumption
         refine Gt.ok_call (f := 28) rfl #[.pointer (some ⟨u2.heap.size, 0, none⟩), pv (n : Int) (t : Int) (k : Int) (e : Int) (r : Int), .int .i64 (C : Int), .slice A6 M c6] (by kernel_rfl) (by simp [*]) ((dmasks_no n t k e r hg0 u2.heap.size A6 c6 M C (xorL l2 l3) HMX.out w5 (HF5.out.below hg' HF5.out.lt) ho6.inn HLENX.out (by omega) (by omega)).mono ?_)
         rintro e w6 ⟨A9, c9, rfl, hb9⟩
         exact ⟨_, rfl, hb9, A9, c9, rfl⟩)
      | (obtain ⟨A6, c6, hv6⟩ : ZIs (a.eval (.tmp 58)) w5 := by assumption
         refine Gt.ok_run (v := .slice A6 0 c6) ?_ ⟨A6, c6, rfl⟩
         simp only [execOp, hv6]
         go_simp
         done)
      | (obtain ⟨A6, c6, hv6⟩ : ZIs (a.eval (.tmp 58)) w5 := by assumption
         refine Gt.ok_run (v := .bool false) ?_ rfl
         simp only [execOp, hv6]
         go_simp
         done))
  · intro a w5 hg
    have hg' : Below u5.heap.size u5 w5 := hg
    simp only [Gt.Pre, Gt.tys, List.getD_cons_zero, List.getD_cons_succ, Gt.Is]
    intro h0 h1 h2 h3 h4 h5 h6 h7 h8 h9 h10 h11
    show K0 _ _
    refine hK0 _ _ ?_
    obtain ⟨Az, cz, h10⟩ := h10
    obtain ⟨_, _, h8⟩ := h8
    obtain ⟨_, _, h5, _⟩ := h5
    simp only [Gt.puts, List.foldl_cons, List.foldl_nil, h0, h1, h2, h3, h4, h5, h8, h9, h10, h11]
    simp only [Act.put, List.setIfInBounds_toArray, List.set_cons_zero, List.set_cons_succ]
    have HBL := Lib.hid (HB5.out.trans (hg'.mono HB5.out.size))
    clear h0 h1 h2 h3 h4 h5 h6 h7 h8 h9 h10 h11
    clear hg' hg
    go_wp2_with fail
    refine (answers_any _).mono ?_
    rintro e w6 ⟨rfl, hb6⟩
    go_wp2
    go_ret
    exact ⟨rfl, HBL.out.trans (hb6.mono HBL.out.size)⟩
    
set_option maxRecDepth 100000 in
set_option maxHeartbeats 1000000 in
theorem side_bad (a0 T0 K0 E0 R0 : Int) (q C : Nat) (hqC : C = q % 10) (hq : q < 256) (A2 : Option Addr) (c2 M : Nat) (A3 : Option Addr) (c3 M' : Nat) (w : World) (hbad : goodB a0 T0 K0 E0 R0 = false ∨ 30 < a0 ∨ M ≠ M') :
    Calls Try.prog 9 #[pv a0 T0 K0 E0 R0, .int .u8 (q : Int), .slice A2 M c2, .slice A3 M' c3] w fun e w' => e = .returned (.bool true) ∧ Below w.heap.size w w' := by
  have eC : (q : Int) % 10 = (C : Int) := by omega
  have eCw : IntKind.u8.wrap (C : Int) = (C : Int) := wrap_byte (by omega)
  have hpb1 := Pbx.new w 23 a0 T0 K0 E0 R0
  have hb1 : Below w.heap.size w (w.alloc (.cells #[.int .i64 a0, .int .i64 T0, .int .i64 K0, .int .i64 E0, .int .i64 R0] 23)) := (Below.refl _ w).alloc (Nat.le_refl _) _
  have HG := Lib.hid (rgood_any a0 T0 K0 E0 R0 (w.alloc (.cells #[.int .i64 a0, .int .i64 T0, .int .i64 K0, .int .i64 E0, .int .i64 R0] 23)))
  clear hqC
  cases hgb : goodB a0 T0 K0 E0 R0 with
  | false =>
    rw [hgb] at HG
    clear hbad hgb
    go_enter Try.func9, Try.ntmps9
    go_wp2_with fail
    refine HG.out.mono ?_
    rintro _ w2 ⟨rfl, hb2⟩
    have z0 := (hpb1.below hb2 hpb1.lt).c0
    have HB2 := Lib.hid (hb1.trans (hb2.mono hb1.size))
    clear hpb1 hb1 hb2 HG
    go_wp2_with fail
    refine (answers_any _).mono ?_
    rintro e w6 ⟨rfl, hb6⟩
    go_wp2
    go_ret
    exact ⟨rfl, HB2.out.trans (hb6.mono HB2.out.size)⟩
  | true =>
    rw [hgb] at HG hbad
    clear hgb
    by_cases ha : 30 < a0
    · clear hbad
      go_enter Try.func9, Try.ntmps9
      go_wp2_with fail
      refine HG.out.mono ?_
      rintro _ w2 ⟨rfl, hb2⟩
      have z0 := (hpb1.below hb2 hpb1.lt).c0
      have HB2 := Lib.hid (hb1.trans (hb2.mono hb1.size))
      clear hpb1 hb1 hb2 HG
      go_wp2_with fail
      refine (answers_any _).mono ?_
      rintro e w6 ⟨rfl, hb6⟩
      go_wp2
      go_ret
      exact ⟨rfl, HB2.out.trans (hb6.mono HB2.out.size)⟩
    · have hne : M ≠ M' := by
        rcases hbad with h | h | h
        · cases h
        · exact absurd h ha
        · exact h
      have hm : ((M : Int) != (M' : Int)) = true := by rw [bne_iff_ne]; omega
      clear hbad hne
      go_enter Try.func9, Try.ntmps9
      go_wp2_with fail
      refine HG.out.mono ?_
      rintro _ w2 ⟨rfl, hb2⟩
      have z0 := (hpb1.below hb2 hpb1.lt).c0
      have HB2 := Lib.hid (hb1.trans (hb2.mono hb1.size))
      clear hpb1 hb1 hb2 HG
      go_wp2_with fail
      refine (answers_any _).mono ?_
      rintro e w6 ⟨rfl, hb6⟩
      go_wp2
      go_ret
      exact ⟨rfl, HB2.out.trans (hb6.mono HB2.out.size)⟩
theorem walk (a0 T0 K0 E0 R0 : Int) (a1 : Int) (A2 : Option Addr) (c2 : Nat) (l2 : List Nat) (A3 : Option Addr) (c3 : Nat) (l3 : List Nat) (w : World) (_w0 : (Lit.int .i64 a0).wf = true ∧ (Lit.int .i64 T0).wf = true ∧ (Lit.int .i64 K0).wf = true ∧ (Lit.int .i64 E0).wf = true ∧ (Lit.int .i64 R0).wf = true) (w1 : (Lit.int .u8 a1).wf = true) (w2 : In w w.heap.size A2 c2 l2) (s2 : c2 ≤ 140737488351232) (w3 : In w w.heap.size A3 c3 l3) (_s3 : c3 ≤ 140737488351232) :
    Calls Try.prog 9 #[pv a0 T0 K0 E0 R0, .int .u8 a1, .slice A2 l2.length c2, .slice A3 l3.length c3] w fun e w' => e = .returned (.bool true) ∧ Below w.heap.size w w' := by
  have hc2 := w2.cap
  obtain ⟨g1, g2⟩ := bounds_u8 w1
  obtain ⟨q, rfl⟩ := Int.eq_ofNat_of_zero_le g1
  have hq : q < 256 := by omega
  by_cases hbad : goodB a0 T0 K0 E0 R0 = false ∨ 30 < a0 ∨ l2.length ≠ l3.length
  · exact side_bad a0 T0 K0 E0 R0 q _ rfl hq A2 c2 l2.length A3 c3 l3.length w hbad
  · have hg : goodB a0 T0 K0 E0 R0 = true := by
      cases h : goodB a0 T0 K0 E0 R0 with
      | true => rfl
      | false => exact absurd (.inl h) hbad
    obtain ⟨n, t, k, e, r, rfl, rfl, rfl, rfl, rfl, h1, h2, h3, h4, h5, h6⟩ := goodB_nat hg
    have hn : n ≤ 30 := by omega
    have hll : l2.length = l3.length := by omega
    rw [← hll]
    by_cases hlen : l2.length = (t + k) * (q % 10)
    · exact side_yes n t k e r hg hn q _ rfl hq A2 c2 _ l2 A3 c3 l3 w rfl hll (by omega) w2 w3 hlen
    · exact side_no n t k e r hg hn q _ rfl hq A2 c2 _ l2 A3 c3 l3 w rfl hll (by omega) w2 w3 hlen

set_option maxRecDepth 100000 in
theorem lifted (os : Os) (started : os.Started) (H : Type) (enc : TypeId × Value → H) :
    ReturnsInHanded {} Try.checked os 9 .any (Rows.dealSumsSpec.pre6 enc Try.prog Try.f9 Rows.dealSumsRow.domain false) (Rows.dealSumsSpec.post enc Try.prog Try.f9 false true false false) := by
  refine returnsInHanded_of_change_sized (C := Try.checked) own started (by kernel_rfl) Try.func9
    (ChangeSpec.witness6 (enc := enc) (C := Try.checked) false ⟨#[], #[.agg #[.int .i64 0, .int .i64 0, .int .i64 0, .int .i64 0, .int .i64 0], .int .u8 0, .slice none 0 0, .slice none 0 0], []⟩ 8 (by kernel_rfl) (by kernel_rfl) (by kernel_rfl) (by kernel_rfl)) ?_
  intro W base args ds gs before hval0 hW _hcnd hsz0 _
  have hval : ∀ (j : Nat) t v, Try.f9.params[j]? = some t → args[j]? = some v → Value.okWide Try.prog W .any base t v := hval0
  have hW' := hW
  obtain ⟨p, q, hA0, hV, rfl, _hfz, _hnd⟩ := hW
  have hA : DataW.TrodAll enc Try.prog W 0 (fun _ => true) true Try.f9.params.toList args.toList ds p := hA0
  have hsz : (DataW.weightsEach Try.prog (Try.f9.params.toList ++ Rows.dealSumsSpec.plain.varTypes Try.prog) (ds ++ gs)).all (· ≤ reachBytes) = true := hsz0
  rw [Try.params9] at hA hval hsz
  obtain ⟨v0, vs0, d0, ds0, p0, q0, hargs, rfl, rfl, h0, r0⟩ := trodAll_cons hA
  obtain ⟨v1, vs1, d1, ds1, p1, q1, rfl, rfl, rfl, h1, r1⟩ := trodAll_cons r0
  obtain ⟨v2, vs2, d2, ds2, p2, q2, rfl, rfl, rfl, h2, r2⟩ := trodAll_cons r1
  obtain ⟨v3, vs3, d3, ds3, p3, q3, rfl, rfl, rfl, h3, r3⟩ := trodAll_cons r2
  obtain ⟨rfl, rfl, rfl⟩ := trodAll_nil r3
  obtain rfl : args = #[v0, v1, v2, v3] := by cases args; simp_all
  obtain ⟨rfl, rfl⟩ := trodVars_none hV
  obtain ⟨a0, T0, K0, E0, R0, rfl, rfl, rfl, w0⟩ := open_five Try.underlying23 (by kernel_rfl) (by kernel_rfl) rfl rfl rfl rfl rfl Try.underlying3 (hval 0 23 v0 rfl rfl) h0
  obtain ⟨a1, rfl, rfl, rfl, w1⟩ := open_int Try.underlying5 (hval 1 5 v1 rfl rfl) h1
  have k2 := h2
  have lt2 : ∀ x ∈ p2, x.block < W.heap.size := by obtain ⟨m, hm⟩ := k2; exact DataW.trod_lt m _ _ _ hm
  obtain ⟨A2, c2, l2, rfl, w2, sz2⟩ := open_bytes Try.underlying28 Try.underlying5 (by kernel_rfl) (hval 2 28 v2 rfl rfl) h2
  have s2 := sized_bytes hsz (j := 2) (t := 28) (e := 5) rfl rfl Try.underlying28 (by kernel_rfl) sz2
  have k3 := h3
  have lt3 : ∀ x ∈ p3, x.block < W.heap.size := by obtain ⟨m, hm⟩ := k3; exact DataW.trod_lt m _ _ _ hm
  obtain ⟨A3, c3, l3, rfl, w3, sz3⟩ := open_bytes Try.underlying28 Try.underlying5 (by kernel_rfl) (hval 3 28 v3 rfl rfl) h3
  have s3 := sized_bytes hsz (j := 3) (t := 28) (e := 5) rfl rfl Try.underlying28 (by kernel_rfl) sz3
  clear hA0 hval0 hsz0 hsz
  refine (walk a0 T0 K0 E0 R0 a1 A2 c2 l2 A3 c3 l3 W w0 w1 w2 s2 w3 s3).mono fun e W' ⟨he, bel⟩ => ?_
  subst he
  exact ⟨_, rfl, _, _, _, [], _, [], hW', trodAll_mk1 (shut_bool Try.underlying4 _), (trodAll_cons_mk (shut_five Try.underlying23 (by kernel_rfl) (by kernel_rfl) rfl rfl rfl rfl rfl Try.underlying3 w0) (trodAll_cons_mk (shut_int Try.underlying5 w1) (trodAll_cons_mk (Below.trod laidOut (by kernel_rfl) (of_decide_eq_true (by kernel_rfl)) k2 bel lt2) (trodAll_cons_mk (Below.trod laidOut (by kernel_rfl) (of_decide_eq_true (by kernel_rfl)) k3 bel lt3) trodAll_mk0)))), rfl, bel.frame _, fun h => by cases h⟩

theorem over : Rows.dealSumsRow.holds Try.pinned (OpenSpec.ofChange Rows.dealSumsSpec) :=
  OpenClaim.holds_of_wide 9 Try.f9 rfl rfl rfl rfl rfl rfl rfl ⟨rfl, rfl, rfl, rfl, rfl⟩ rfl rfl rfl rfl rfl (by kernel_rfl) Try.func9 (by kernel_rfl)
    (of_decide_eq_true (by kernel_rfl)) (by unfold Func.isWrapper; first | (rw [if_pos (by decide +kernel)]; kernel_rfl) | (rw [if_neg (by decide +kernel)]; exact ⟨rfl, rfl⟩))
    (fun os started H enc _ => lifted os started H enc)

end Go.Proofs.Ytaknffdokkfmgaa.dealSums
namespace Go.Proofs.Ytaknffdokkfmgaa
/-- The statement. -/
theorem dealSums_holds : Rows.DealSumsSaid := dealSums.over
#print axioms dealSums_holds
end Go.Proofs.Ytaknffdokkfmgaa

