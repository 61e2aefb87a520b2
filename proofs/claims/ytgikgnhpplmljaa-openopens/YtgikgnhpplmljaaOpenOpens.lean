/- For every input OpenOpens returns true, and every argument reads behind the call as it did before: no condition. -/
import Derived.ProofKit
import Derived.OpenShut
import Derived.SizedLaws
import Derived.ChangeOld
import Derived.Carry
import Derived.Test.YtgikgnhpplmljaaRows
import Derived.Test.YtgikgnhpplmljaaJ1
import Derived.Test.YtgikgnhpplmljaaJ2
import Derived.Test.YtgikgnhpplmljaaJ3
import Derived.Test.YtgikgnhpplmljaaJ4
import Derived.Test.YtgikgnhpplmljaaJ5
import Derived.Test.YtgikgnhpplmljaaJ13
import Derived.Test.YtgikgnhpplmljaaJ16
namespace Go.Proofs.Ytgikgnhpplmljaa.openOpens
open Go.ChangeShapes Go.WideShapes Go.ChangeAt Go.RowKit Go.Shelf Gw Pol

theorem own : ownKnob Try.prog.godebug = none := by kernel_rfl
theorem laidOut : laidOutB Try.prog = true := by kernel_rfl
set_option maxRecDepth 100000 in
set_option maxHeartbeats 8000000 in
theorem side_fine (n t k e r : Nat) (hg0 : goodB n t k e r = true) (ht : 1 ≤ t) (hk : 1 ≤ k) (hm : t + k + 2 * e ≤ n) (hnk : n + k ≤ 255) (hn30 : n ≤ 30) (size C : Nat) (hC : C = Sp.cnt size k) (hsz : size ≤ 3 * k) (g : Nat) (hgn : g < n) (A : Option Addr) (c M : Nat) (z : List Int) (A3 : Option Addr) (c3 R : Nat) (Q : Nat → Option Addr) (q : Nat → Nat) (l : Nat → List Nat) (w : World) (hM : M = z.length) (hM9 : M ≤ 9) (wi : InZ w w.heap.size A c z) (wm : MIn w w.heap.size A3 c3 R Q q l) (hRb : R ≤ 5864062014634) (P : Nat → List Nat) (hF : Fnd n t k e C z R l P) :
    Calls Try.prog 4 #[pv (n : Int) (t : Int) (k : Int) (e : Int) (r : Int), .int .i64 (size : Int), .int .i64 (g : Int), .slice A M c, .slice A3 R c3] w fun e w' => e = .returned (.bool true) ∧ Below w.heap.size w w' := by
  have hCb : C ≤ size := by rw [hC]; exact Sp.cnt_le size k
  have HCE := Lib.hid hC
  have HMZ := Lib.hid hM
  have HF := Lib.hid hF
  obtain ⟨nw, hnw⟩ : ∃ nw, nw = (wrongL n z R l P C).length := ⟨_, rfl⟩
  have HNW := Lib.hid hnw
  clear hnw
  have hpb1 := Pbx.new w 23 n t k e r
  have hb1 : Below w.heap.size w (w.alloc (.cells #[.int .i64 (n : Int), .int .i64 (t : Int), .int .i64 (k : Int), .int .i64 (e : Int), .int .i64 (r : Int)] 23)) := (Below.refl _ w).alloc (Nat.le_refl _) _
  have HG := Lib.hid (ogood_any n t k e r A M c (w.alloc (.cells #[.int .i64 (n : Int), .int .i64 (t : Int), .int .i64 (k : Int), .int .i64 (e : Int), .int .i64 (r : Int)] 23)))
  rw [hg0, decide_eq_true hM9, decide_eq_true (show (n : Int) ≤ 30 by omega)] at HG
  obtain ⟨k3, hk3⟩ : ∃ k3, k3 = 3 * k := ⟨_, rfl⟩
  have f4 : (3 : Int) * (k : Int) = (k3 : Int) := by omega
  have f5 : ¬ ((k3 : Int) < (size : Int)) := by omega
  have f6 : ¬ ((size : Int) < 0) := by omega
  have f7 : ¬ ((256 : Int) < (size : Int)) := by omega
  have hszb : size ≤ 256 := by omega
  clear hM hF hC hk3 hsz
  go_enter Try.func4, Try.ntmps4
  go_wp2_with fail
  refine HG.out.mono ?_
  rintro _ w2 ⟨rfl, hb2⟩
  have HP2 := Lib.hid (hpb1.below hb2 hpb1.lt)
  have HB2 := Lib.hid (hb1.trans (hb2.mono hb1.size))
  clear hpb1 hb1 hb2 HG
  obtain ⟨y0, y1, y2, y3, y4⟩ := HP2.out
  go_wp2_with fail
  refine (new_any w2).mono ?_
  rintro _ w3 ⟨rfl, hF3, hb3⟩
  have HP3 := Lib.hid (HP2.out.below hb3 HP2.out.lt)
  have HB3 := Lib.hid (HB2.out.trans (hb3.mono HB2.out.size))
  have HF3 := Lib.hid hF3
  have HIZ3 := Lib.hid ((wi.below HB3.out).more HB3.out.size)
  have HMI3 := Lib.hid ((wm.below HB3.out).more HB3.out.size)
  clear y0 y1 y2 y3 y4 hb3 hF3
  obtain ⟨y0, y1, y2, y3, y4⟩ := HP3.out
  go_wp2_with fail
  refine (oopen_any n t k e r R size hg0 w2.heap.size A A3 c c3 M z HMZ.out Q q l w3 HF3.out HIZ3.out HMI3.out hszb (by omega) hRb).mono ?_
  rintro en w4 h4
  obtain ⟨v, rfl, h5, h6⟩ := op_yes (nw := nw) h4 hk (by rw [← HCE.out]; exact HF.out) (by rw [← HCE.out]; exact HNW.out)
  rw [← HCE.out] at h5
  obtain ⟨Ab, cb, Aw, cw, rfl, hdoc, hwr⟩ := h5
  have HB4 := Lib.hid (HB3.out.trans (h6.mono HB3.out.size))
  have HP4 := Lib.hid (HP3.out.below h6 HP3.out.lt)
  have HF4 := Lib.hid (HF3.out.below h6 HF3.out.lt)
  have HIZ4 := Lib.hid ((HIZ3.out.below h6).more h6.size)
  have HMI4 := Lib.hid ((HMI3.out.below h6).more h6.size)
  have HD4 := Lib.hid hdoc
  have HJ4 := Lib.hid hwr
  clear hdoc hwr
  clear y0 y1 y2 y3 y4 h4 h6
  obtain ⟨y0, y1, y2, y3, y4⟩ := HP4.out
  have HCO := Lib.hid (rcols_any size k (by omega) (by omega) (by omega) w4)
  rw [← HCE.out] at HCO
  go_wp2_with fail
  refine HCO.out.mono ?_
  rintro _ w4 ⟨rfl, rfl⟩
  go_wp2_with fail
  refine (oat_any n t k e r R C g hg0 hgn w2.heap.size A A3 c c3 M z HMZ.out Q q l w4 HF4.out HIZ4.out HMI4.out (by omega) (by omega) hRb).mono ?_
  rintro en w7 h7
  obtain ⟨As, cs, rfl, hsh, hb7⟩ := at_yes h7 HF.out
  have HB7 := Lib.hid (HB4.out.trans (hb7.mono HB4.out.size))
  have HP7 := Lib.hid (HP4.out.below hb7 HP4.out.lt)
  have HIZ7 := Lib.hid ((HIZ4.out.below hb7).more hb7.size)
  have HMI7 := Lib.hid ((HMI4.out.below hb7).more hb7.size)
  have HD7 := Lib.hid ((HD4.out.below hb7).more hb7.size)
  have HJ7 := Lib.hid (HJ4.out.below hb7)
  have HSH7 := Lib.hid hsh
  clear hsh hb7 h7
  clear y0 y1 y2 y3 y4
  obtain ⟨y0, y1, y2, y3, y4⟩ := HP7.out
  go_wp2_with fail
  refine (rfind_any n t k e R C r (by omega) ht hk (by omega) (by omega) A A3 c c3 M z HMZ.out Q q l w7 HIZ7.out HMI7.out (by omega) (by omega) (by omega)).mono ?_
  rintro en w9 h9
  obtain ⟨v, rfl, h10, hb9⟩ := fd_yes h9 HF.out HNW.out
  obtain ⟨Ag, cg, pag, cpg, Av, cv, rfl, hMg, hJv⟩ := h10
  have HB9 := Lib.hid (HB7.out.trans (hb9.mono HB7.out.size))
  have HP9 := Lib.hid (HP7.out.below hb9 HP7.out.lt)
  have HD := Lib.hid ((HD7.out.below hb9).more hb9.size)
  have HJ := Lib.hid (HJ7.out.below hb9)
  have HMG := Lib.hid hMg
  have HJV := Lib.hid hJv
  clear hMg hJv
  have hb9_ := hb9
  clear y0 y1 y2 y3 y4 h9 hb9
  have HSH := Lib.hid ((HSH7.out.below hb9_).more hb9_.size)
  obtain ⟨σ, hσ⟩ : ∃ σ, σ = str (shRow P C g) := ⟨_, rfl⟩
  have HSG := Lib.hid hσ
  have t1 : (0 : Int) ≤ (g : Int) := by omega
  have t2 : (g : Int) < (n : Int) := by omega
  clear hσ hb9_
  have y0 := HP9.out.c0
  go_wp2
  clear y0
  rename_i K1 hK1
  refine Gt.regionA [Gt.Is (.bool true), Gt.Is (.bool true), Gt.Is (.bool false), Gt.Is (.bool false), Gt.Is (.bool true), Gt.Is (.bool true), Gt.Is (.bool true), Gt.Is (.int .i64 (g : Int)), Gt.Is (.bool true), Gt.Is (.bool true), Gt.Is (.bool true), Gt.Is (.int .i64 (g : Int)), Gt.Is (.pointer (some ⟨w.heap.size, 0, none⟩)), Gt.Is (.int .i64 (n : Int)), Gt.Is (.bool true), Gt.Is (.bool true), Gt.Is (.bool false), Gt.Is (.bool false), Gt.Is (.bool false), Gt.Is (.bool true), Gt.Is (.bool true), Gt.Is (.slice As C cs), Gt.Is (.string σ), Gt.Is (.slice Ag C cg), Gt.Is (.int .i64 (g : Int)), NIs C (shRow P C g), Gt.Is (.string σ), Gt.Is (.bool false), Gt.Is (.bool false), Gt.Is (.bool false), Gt.Is (.bool false), Gt.Is (.bool true), Gt.Is (.bool false), Gt.Is (.bool false), Gt.Is undef, Gt.Is undef, Gt.Is undef, Gt.Is (.bool false), Gt.Is (.bool false)] 160
    [⟨[], [14], none⟩, ⟨[], [20], none⟩, ⟨[(0, 92), (1, 93)], [], none⟩, ⟨[(2, 94)], [], none⟩, ⟨[(3, 95)], [17], some (95, false)⟩, ⟨[(3, 95)], [20], some (95, false)⟩, ⟨[(3, 95), (5, 97)], [], some (95, false)⟩, ⟨[(6, 98)], [2], some (98, true)⟩, ⟨[(6, 98), (7, 99)], [], some (98, true)⟩, ⟨[(3, 95), (6, 98), (8, 100)], [], some (95, false)⟩, ⟨[(3, 95), (9, 101)], [], some (95, false)⟩, ⟨[(10, 102)], [2], some (102, true)⟩, ⟨[(10, 102)], [5], some (102, true)⟩, ⟨[(10, 102), (12, 104)], [], some (102, true)⟩, ⟨[(10, 102), (11, 103), (13, 105)], [], some (102, true)⟩, ⟨[(3, 95), (10, 102), (14, 106)], [], some (95, false)⟩, ⟨[(3, 95), (4, 96), (15, 107)], [], some (95, false)⟩, ⟨[(3, 95), (16, 108)], [], none⟩, ⟨[(17, 109)], [], none⟩, ⟨[(18, 110)], [17], some (110, false)⟩, ⟨[(18, 110), (19, 111)], [], some (110, false)⟩, ⟨[(20, 112)], [16], some (112, true)⟩, ⟨[(20, 112), (21, 113)], [], some (112, true)⟩, ⟨[(20, 112)], [18], some (112, true)⟩, ⟨[(20, 112)], [2], some (112, true)⟩, ⟨[(20, 112), (23, 115), (24, 116)], [], some (112, true)⟩, ⟨[(20, 112), (25, 117)], [], some (112, true)⟩, ⟨[(20, 112), (22, 114), (26, 118)], [], some (112, true)⟩, ⟨[(18, 110), (20, 112), (27, 119)], [], some (110, false)⟩, ⟨[(18, 110), (28, 120)], [], none⟩, ⟨[(29, 121)], [], none⟩, ⟨[(30, 122)], [17], some (122, false)⟩, ⟨[(30, 122), (31, 123)], [], some (122, false)⟩, ⟨[(30, 122), (32, 124)], [], some (122, false)⟩, ⟨[(33, 125)], [16], some (125, true)⟩, ⟨[(33, 125), (34, 126)], [], some (125, true)⟩, ⟨[(33, 125), (35, 127)], [], some (125, true)⟩, ⟨[(30, 122), (33, 125), (36, 128)], [], some (122, false)⟩, ⟨[(30, 122), (37, 129)], [], none⟩]
    [(0, 92), (1, 93), (2, 94), (3, 95), (4, 96), (5, 97), (6, 98), (7, 99), (8, 100), (9, 101), (10, 102), (11, 103), (12, 104), (13, 105), (14, 106), (15, 107), (16, 108), (17, 109), (18, 110), (19, 111), (20, 112), (21, 113), (22, 114), (23, 115), (24, 116), (25, 117), (26, 118), (27, 119), (28, 120), (29, 121), (30, 122), (31, 123), (32, 124), (33, 125), (34, 126), (35, 127), (36, 128), (37, 129), (38, 130)] (by kernel_rfl) (by kernel_rfl) (by kernel_rfl) (by kernel_rfl) ?_ ?_ ?_
  · simp only [Gt.Monos]
    repeat' apply And.intro
    all_goals (first | exact trivial | exact Gt.Is.mono _ | exact NIs.mono _ _)
  · simp only [Gt.Obs]
    repeat' apply And.intro
    all_goals try exact trivial
    all_goals (
      intro a w5 hg
      have hg' : Below w9.heap.size w9 w5 := hg
      simp only [Gt.Pre, Gt.Kept, Gt.Guarded, Gt.tys, List.getD_cons_zero, List.getD_cons_succ, Gt.Is, Nat.zero_add, Nat.reduceAdd]
      intros
      try (refine ⟨fun _ => ?_, fun hne => absurd (by assumption) hne⟩))
    all_goals (first
      | exact Gt.ok_move rfl (by assumption)
      | exact Gt.ok_assign rfl (by assumption)
      | exact Gt.ok_pick rfl (by assumption) (by rw [if_pos rfl]; assumption)
      | (refine Gt.ok_call (f := 18) rfl #[.slice Ag C cg, .int .i64 (g : Int)] (by kernel_rfl) (by simp [*]) ((rat_any Ag cg C g pag cpg P w5 ((HMG.out.below hg').more hg'.size) (by omega) (by omega) (fun c hc => by have := (HF.out.agd c hc).deg; omega)).mono ?_)
         rintro e w6 ⟨A6, c6, rfl, ho6, hb6⟩
         exact ⟨_, rfl, hb6, A6, c6, rfl, ho6.inn⟩)
      | (have k5 := conv_sl (P := Try.prog) (HSH.out.below hg').sl Try.underlying36 Try.underlying5 Try.underlying9 cs
         rw [shRow_len, ← HSG.out] at k5
         exact Gt.ok_convert rfl (by assumption) k5 rfl)
      | (obtain ⟨A6, c6, hv6, hI6⟩ : NIs C (shRow P C g) (a.eval (.tmp 117)) w5 := by assumption
         have k5 := conv_sl (P := Try.prog) hI6.sl Try.underlying36 Try.underlying5 Try.underlying9 c6
         rw [shRow_len, ← HSG.out] at k5
         exact Gt.ok_convert rfl hv6 k5 rfl)
      | (have k5 := (HP9.out.below hg' HP9.out.lt).c0
         refine Gt.ok_run ?_ rfl
         simp only [execOp, *]
         go_simp
         done)
      | (refine Gt.ok_run ?_ rfl
         simp only [execOp, resolve, List.map_toArray, List.map_cons, List.map_nil, *]
         go_simp
         done)
      | (exact ⟨fun h => absurd (show Value.bool true = Value.bool false from h.symm.trans (by assumption)) (by intro h; cases h), fun _ => trivial⟩)
      | (exact ⟨fun h => absurd (show Value.bool false = Value.bool true from h.symm.trans (by assumption)) (by intro h; cases h), fun _ => trivial⟩))
  · intro a w5 hg
    have hg' : Below w9.heap.size w9 w5 := hg
    simp only [Gt.Pre, Gt.tys, List.getD_cons_zero, List.getD_cons_succ, Gt.Is]
    intro h0 h1 h2 h3 h4 h5 h6 h7 h8 h9 h10 h11 h12 h13 h14 h15 h16 h17 h18 h19 h20 h21 h22 h23 h24 h25 h26 h27 h28 h29 h30 h31 h32 h33 h34 h35 h36 h37 h38
    show K1 _ _
    refine hK1 _ _ ?_
    obtain ⟨_, _, h25, _⟩ := h25
    simp only [Gt.puts, List.foldl_cons, List.foldl_nil, h0, h1, h2, h3, h4, h5, h6, h7, h8, h9, h10, h11, h12, h13, h14, h15, h16, h17, h18, h19, h20, h21, h22, h23, h24, h25, h26, h27, h28, h29, h30, h31, h32, h33, h34, h35, h36, h37, h38]
    simp only [Act.put, List.setIfInBounds_toArray, List.set_cons_zero, List.set_cons_succ]
    have HB10 := Lib.hid (HB9.out.trans (hg'.mono HB9.out.size))
    have HP10 := Lib.hid (HP9.out.below hg' HP9.out.lt)
    have HD10 := Lib.hid ((HD.out.below hg').more hg'.size)
    have HJ10 := Lib.hid (HJ.out.below hg')
    have HMG10 := Lib.hid ((HMG.out.below hg').more hg'.size)
    have HJV10 := Lib.hid (HJV.out.below hg')
    clear h0 h1 h2 h3 h4 h5 h6 h7 h8 h9 h10 h11 h12 h13 h14 h15 h16 h17 h18 h19 h20 h21 h22 h23 h24 h25 h26 h27 h28 h29 h30 h31 h32 h33 h34 h35 h36 h37 h38
    clear hg' hg
    obtain ⟨w10, hw10⟩ : ∃ w10, w10 = w5 := ⟨_, rfl⟩
    rw [← hw10] at HB10 HP10 HD10 HJ10 HMG10 HJV10
    rw [← hw10]
    clear hw10
    obtain ⟨τ, hτ⟩ : ∃ τ, τ = str (docL n k size P) := ⟨_, rfl⟩
    have HTG := Lib.hid hτ
    have HSI : Hid (∀ W5, Below w10.heap.size w10 W5 → Calls Try.prog 14 #[.slice Aw nw cw, .slice Av nw cv] W5 fun e w' => e = .returned (.bool true) ∧ ∃ n, w' = W5.drewN n) := Lib.hid fun W5 h5 => by
      have := sameInts_any Aw Av cw cv (wrongL n z R l P C) (wrongL n z R l P C) W5 (HJ10.out.below h5) (HJV10.out.below h5) (by have := wrongL_len n z R l P C; omega)
      rwa [← HNW.out, decide_eq_true (rfl : (wrongL n z R l P C) = (wrongL n z R l P C))] at this
    clear hτ
    go_wp2
    rename_i K2 hK2
    refine Gt.regionA [Gt.Is (.bool true), Gt.Is (.bool true), Gt.Is (.slice Ab size cb), Gt.Is (.string τ), Gt.Is (pv (n : Int) (t : Int) (k : Int) (e : Int) (r : Int)), Gt.Is (.int .i64 (size : Int)), Gt.Is (.slice Ag C cg), NIs size (docL n k size P), Gt.Is (.string τ), Gt.Is (.bool true), Gt.Is (.bool true), Gt.Is (.bool true), Gt.Is (.slice Aw nw cw), Gt.Is (.slice Av nw cv), Gt.Is (.bool true), Gt.Is (.bool true), Gt.Is (.bool true)] 160
      [⟨[], [], none⟩, ⟨[(0, 144)], [], none⟩, ⟨[(1, 145)], [12], some (145, true)⟩, ⟨[(1, 145), (2, 146)], [], some (145, true)⟩, ⟨[(1, 145)], [5], some (145, true)⟩, ⟨[(1, 145)], [1], some (145, true)⟩, ⟨[(1, 145)], [18], some (145, true)⟩, ⟨[(1, 145), (4, 148), (5, 149), (6, 150)], [], some (145, true)⟩, ⟨[(1, 145), (7, 151)], [], some (145, true)⟩, ⟨[(1, 145), (3, 147), (8, 152)], [], some (145, true)⟩, ⟨[(1, 145), (9, 153)], [], none⟩, ⟨[(10, 154)], [], none⟩, ⟨[(11, 155)], [13], some (155, true)⟩, ⟨[(11, 155)], [19], some (155, true)⟩, ⟨[(11, 155), (12, 156), (13, 157)], [], some (155, true)⟩, ⟨[(11, 155), (14, 158)], [], none⟩, ⟨[(15, 159)], [], none⟩]
      [(0, 144), (1, 145), (2, 146), (3, 147), (4, 148), (5, 149), (6, 150), (7, 151), (8, 152), (9, 153), (10, 154), (11, 155), (12, 156), (13, 157), (14, 158), (15, 159), (16, 10)] (by kernel_rfl) (by kernel_rfl) (by kernel_rfl) (by kernel_rfl) ?_ ?_ ?_
    · simp only [Gt.Monos]
      repeat' apply And.intro
      all_goals (first | exact trivial | exact Gt.Is.mono _ | exact NIs.mono _ _)
    · simp only [Gt.Obs]
      repeat' apply And.intro
      all_goals try exact trivial
      all_goals (
        intro a w5 hg
        have hg' : Below w10.heap.size w10 w5 := hg
        simp only [Gt.Pre, Gt.Kept, Gt.Guarded, Gt.tys, List.getD_cons_zero, List.getD_cons_succ, Gt.Is, Nat.zero_add, Nat.reduceAdd]
        intros
        try (refine ⟨fun _ => ?_, fun hne => absurd (by assumption) hne⟩))
      all_goals (first
        | exact Gt.ok_move rfl (by assumption)
        | exact Gt.ok_assign rfl (by assumption)
        | exact Gt.ok_pick rfl (by assumption) (by rw [if_pos rfl]; assumption)
        | (exact Gt.ok_call (f := 9) rfl #[] (by kernel_rfl) (by simp) ((answers_any _).mono fun e w6 h => ⟨_, h.1, h.2, rfl⟩))
        | (exact Gt.ok_load rfl (by assumption) (HP10.out.below hg' HP10.out.lt).load rfl)
        | (refine Gt.ok_call (f := 19) rfl #[pv (n : Int) (t : Int) (k : Int) (e : Int) (r : Int), .int .i64 (size : Int), .slice Ag C cg] (by kernel_rfl) (by simp [*] <;> rfl) ((rsecret_any n k size C t e r hk hnk Ag cg pag cpg P w5 ((HMG10.out.below hg').more hg'.size) HCE.out (by omega) (by omega) (fun c hc => by have := (HF.out.agd c hc).deg; omega)).mono ?_)
           rintro e w6 ⟨A6, c6, rfl, ho6, hb6⟩
           exact ⟨_, rfl, hb6, A6, c6, rfl, ho6.inn⟩)
        | (have k5 := conv_sl (P := Try.prog) (HD10.out.below hg').sl Try.underlying36 Try.underlying5 Try.underlying9 cb
           rw [docL_len, ← HTG.out] at k5
           exact Gt.ok_convert rfl (by assumption) k5 rfl)
        | (obtain ⟨A6, c6, hv6, hI6⟩ : NIs size (docL n k size P) (a.eval (.tmp 151)) w5 := by assumption
           have k5 := conv_sl (P := Try.prog) hI6.sl Try.underlying36 Try.underlying5 Try.underlying9 c6
           rw [docL_len, ← HTG.out] at k5
           exact Gt.ok_convert rfl hv6 k5 rfl)
        | (refine Gt.ok_call (f := 14) rfl #[.slice Aw nw cw, .slice Av nw cv] (by kernel_rfl) (by simp [*]) ((HSI.out w5 hg').mono ?_)
           rintro e w6 ⟨rfl, d6, rfl⟩
           exact ⟨_, rfl, Gw.Below.drewN (Below.refl _ _) d6, rfl⟩)
        | (refine Gt.ok_run ?_ rfl
           simp only [execOp, *]
           go_simp
           done))
    · intro a w5 hg
      have hg' : Below w10.heap.size w10 w5 := hg
      simp only [Gt.Pre, Gt.tys, List.getD_cons_zero, List.getD_cons_succ, Gt.Is]
      intro h0 h1 h2 h3 h4 h5 h6 h7 h8 h9 h10 h11 h12 h13 h14 h15 h16
      show K2 _ _
      refine hK2 _ _ ?_
      obtain ⟨_, _, h7, _⟩ := h7
      simp only [Gt.puts, List.foldl_cons, List.foldl_nil, h0, h1, h2, h3, h4, h5, h6, h7, h8, h9, h10, h11, h12, h13, h14, h15, h16]
      simp only [Act.put, List.setIfInBounds_toArray, List.set_cons_zero, List.set_cons_succ]
      have HB14 := Lib.hid (HB10.out.trans (hg'.mono HB10.out.size))
      clear h0 h1 h2 h3 h4 h5 h6 h7 h8 h9 h10 h11 h12 h13 h14 h15 h16
      clear hg' hg
      go_wp2
      go_ret
      exact ⟨rfl, HB14.out⟩
    
set_option maxRecDepth 100000 in
set_option maxHeartbeats 8000000 in
theorem side_neg (n t k e r : Nat) (hg0 : goodB n t k e r = true) (ht : 1 ≤ t) (hk : 1 ≤ k) (hm : t + k + 2 * e ≤ n) (hnk : n + k ≤ 255) (hn30 : n ≤ 30) (size C : Nat) (hC : C = Sp.cnt size k) (hsz : size ≤ 3 * k) (ti : Int) (htw : (Lit.int .i64 ti).wf = true) (htb : ti < 0) (A : Option Addr) (c M : Nat) (z : List Int) (A3 : Option Addr) (c3 R : Nat) (Q : Nat → Option Addr) (q : Nat → Nat) (l : Nat → List Nat) (w : World) (hM : M = z.length) (hM9 : M ≤ 9) (wi : InZ w w.heap.size A c z) (wm : MIn w w.heap.size A3 c3 R Q q l) (hRb : R ≤ 5864062014634) (P : Nat → List Nat) (hF : Fnd n t k e C z R l P) :
    Calls Try.prog 4 #[pv (n : Int) (t : Int) (k : Int) (e : Int) (r : Int), .int .i64 (size : Int), .int .i64 ti, .slice A M c, .slice A3 R c3] w fun e w' => e = .returned (.bool true) ∧ Below w.heap.size w w' := by
  have hCb : C ≤ size := by rw [hC]; exact Sp.cnt_le size k
  have HCE := Lib.hid hC
  have HMZ := Lib.hid hM
  have HF := Lib.hid hF
  obtain ⟨nw, hnw⟩ : ∃ nw, nw = (wrongL n z R l P C).length := ⟨_, rfl⟩
  have HNW := Lib.hid hnw
  clear hnw
  have hpb1 := Pbx.new w 23 n t k e r
  have hb1 : Below w.heap.size w (w.alloc (.cells #[.int .i64 (n : Int), .int .i64 (t : Int), .int .i64 (k : Int), .int .i64 (e : Int), .int .i64 (r : Int)] 23)) := (Below.refl _ w).alloc (Nat.le_refl _) _
  have HG := Lib.hid (ogood_any n t k e r A M c (w.alloc (.cells #[.int .i64 (n : Int), .int .i64 (t : Int), .int .i64 (k : Int), .int .i64 (e : Int), .int .i64 (r : Int)] 23)))
  rw [hg0, decide_eq_true hM9, decide_eq_true (show (n : Int) ≤ 30 by omega)] at HG
  obtain ⟨k3, hk3⟩ : ∃ k3, k3 = 3 * k := ⟨_, rfl⟩
  have f4 : (3 : Int) * (k : Int) = (k3 : Int) := by omega
  have f5 : ¬ ((k3 : Int) < (size : Int)) := by omega
  have f6 : ¬ ((size : Int) < 0) := by omega
  have f7 : ¬ ((256 : Int) < (size : Int)) := by omega
  have hszb : size ≤ 256 := by omega
  clear hM hF hC hk3 hsz
  go_enter Try.func4, Try.ntmps4
  go_wp2_with fail
  refine HG.out.mono ?_
  rintro _ w2 ⟨rfl, hb2⟩
  have HP2 := Lib.hid (hpb1.below hb2 hpb1.lt)
  have HB2 := Lib.hid (hb1.trans (hb2.mono hb1.size))
  clear hpb1 hb1 hb2 HG
  obtain ⟨y0, y1, y2, y3, y4⟩ := HP2.out
  go_wp2_with fail
  refine (new_any w2).mono ?_
  rintro _ w3 ⟨rfl, hF3, hb3⟩
  have HP3 := Lib.hid (HP2.out.below hb3 HP2.out.lt)
  have HB3 := Lib.hid (HB2.out.trans (hb3.mono HB2.out.size))
  have HF3 := Lib.hid hF3
  have HIZ3 := Lib.hid ((wi.below HB3.out).more HB3.out.size)
  have HMI3 := Lib.hid ((wm.below HB3.out).more HB3.out.size)
  clear y0 y1 y2 y3 y4 hb3 hF3
  obtain ⟨y0, y1, y2, y3, y4⟩ := HP3.out
  go_wp2_with fail
  refine (oopen_any n t k e r R size hg0 w2.heap.size A A3 c c3 M z HMZ.out Q q l w3 HF3.out HIZ3.out HMI3.out hszb (by omega) hRb).mono ?_
  rintro en w4 h4
  obtain ⟨v, rfl, h5, h6⟩ := op_yes (nw := nw) h4 hk (by rw [← HCE.out]; exact HF.out) (by rw [← HCE.out]; exact HNW.out)
  rw [← HCE.out] at h5
  obtain ⟨Ab, cb, Aw, cw, rfl, hdoc, hwr⟩ := h5
  have HB4 := Lib.hid (HB3.out.trans (h6.mono HB3.out.size))
  have HP4 := Lib.hid (HP3.out.below h6 HP3.out.lt)
  have HF4 := Lib.hid (HF3.out.below h6 HF3.out.lt)
  have HIZ4 := Lib.hid ((HIZ3.out.below h6).more h6.size)
  have HMI4 := Lib.hid ((HMI3.out.below h6).more h6.size)
  have HD4 := Lib.hid hdoc
  have HJ4 := Lib.hid hwr
  clear hdoc hwr
  clear y0 y1 y2 y3 y4 h4 h6
  obtain ⟨y0, y1, y2, y3, y4⟩ := HP4.out
  have HCO := Lib.hid (rcols_any size k (by omega) (by omega) (by omega) w4)
  rw [← HCE.out] at HCO
  go_wp2_with fail
  refine HCO.out.mono ?_
  rintro _ w4 ⟨rfl, rfl⟩
  go_wp2_with fail
  refine (at_none n t k e r R C ti hg0 htw w2.heap.size A A3 c c3 M z HMZ.out Q q l w4 HF4.out HIZ4.out HMI4.out (by omega) (by omega) hRb (.inr (.inl htb))).mono ?_
  rintro en w7 ⟨As, cs, rfl, hb7⟩
  have HB7 := Lib.hid (HB4.out.trans (hb7.mono HB4.out.size))
  have HP7 := Lib.hid (HP4.out.below hb7 HP4.out.lt)
  have HIZ7 := Lib.hid ((HIZ4.out.below hb7).more hb7.size)
  have HMI7 := Lib.hid ((HMI4.out.below hb7).more hb7.size)
  have HD7 := Lib.hid ((HD4.out.below hb7).more hb7.size)
  have HJ7 := Lib.hid (HJ4.out.below hb7)
  clear hb7
  clear y0 y1 y2 y3 y4
  obtain ⟨y0, y1, y2, y3, y4⟩ := HP7.out
  go_wp2_with fail
  refine (rfind_any n t k e R C r (by omega) ht hk (by omega) (by omega) A A3 c c3 M z HMZ.out Q q l w7 HIZ7.out HMI7.out (by omega) (by omega) (by omega)).mono ?_
  rintro en w9 h9
  obtain ⟨v, rfl, h10, hb9⟩ := fd_yes h9 HF.out HNW.out
  obtain ⟨Ag, cg, pag, cpg, Av, cv, rfl, hMg, hJv⟩ := h10
  have HB9 := Lib.hid (HB7.out.trans (hb9.mono HB7.out.size))
  have HP9 := Lib.hid (HP7.out.below hb9 HP7.out.lt)
  have HD := Lib.hid ((HD7.out.below hb9).more hb9.size)
  have HJ := Lib.hid (HJ7.out.below hb9)
  have HMG := Lib.hid hMg
  have HJV := Lib.hid hJv
  clear hMg hJv
  clear y0 y1 y2 y3 y4 h9 hb9
  have t1 : ¬ ((0 : Int) ≤ ti) := by omega
  have y0 := HP9.out.c0
  go_wp2
  clear y0
  rename_i K1 hK1
  refine Gt.regionA [Gt.Is (.bool true), Gt.Is (.bool true), Gt.Is (.bool false), Gt.Is (.bool false), Gt.Is (.bool false), Gt.Is (.bool true), Gt.Is (.bool true), Gt.Is (.int .i64 ti), Gt.Is (.bool false), Gt.Is (.bool false), Gt.Is (.bool false), Gt.Is undef, Gt.Is undef, Gt.Is undef, Gt.Is undef, Gt.Is (.bool false), Gt.Is (.bool false), Gt.Is (.bool false), Gt.Is (.bool false), Gt.Is (.bool false), Gt.Is (.bool false), Gt.Is undef, Gt.Is undef, Gt.Is undef, Gt.Is undef, Gt.Is undef, Gt.Is undef, Gt.Is undef, Gt.Is (.bool false), Gt.Is (.bool false), Gt.Is (.bool false), Gt.Is (.bool false), Gt.Is (.bool true), Gt.Is (.bool true), Gt.Is (.slice As 0 cs), Gt.Is (.int .i64 0), Gt.Is (.bool false), Gt.Is (.bool false), Gt.Is (.bool false)] 160
    [⟨[], [14], none⟩, ⟨[], [20], none⟩, ⟨[(0, 92), (1, 93)], [], none⟩, ⟨[(2, 94)], [], none⟩, ⟨[(3, 95)], [17], some (95, false)⟩, ⟨[(3, 95)], [20], some (95, false)⟩, ⟨[(3, 95), (5, 97)], [], some (95, false)⟩, ⟨[(6, 98)], [2], some (98, true)⟩, ⟨[(6, 98), (7, 99)], [], some (98, true)⟩, ⟨[(3, 95), (6, 98), (8, 100)], [], some (95, false)⟩, ⟨[(3, 95), (9, 101)], [], some (95, false)⟩, ⟨[(10, 102)], [2], some (102, true)⟩, ⟨[(10, 102)], [5], some (102, true)⟩, ⟨[(10, 102), (12, 104)], [], some (102, true)⟩, ⟨[(10, 102), (11, 103), (13, 105)], [], some (102, true)⟩, ⟨[(3, 95), (10, 102), (14, 106)], [], some (95, false)⟩, ⟨[(3, 95), (4, 96), (15, 107)], [], some (95, false)⟩, ⟨[(3, 95), (16, 108)], [], none⟩, ⟨[(17, 109)], [], none⟩, ⟨[(18, 110)], [17], some (110, false)⟩, ⟨[(18, 110), (19, 111)], [], some (110, false)⟩, ⟨[(20, 112)], [16], some (112, true)⟩, ⟨[(20, 112), (21, 113)], [], some (112, true)⟩, ⟨[(20, 112)], [18], some (112, true)⟩, ⟨[(20, 112)], [2], some (112, true)⟩, ⟨[(20, 112), (23, 115), (24, 116)], [], some (112, true)⟩, ⟨[(20, 112), (25, 117)], [], some (112, true)⟩, ⟨[(20, 112), (22, 114), (26, 118)], [], some (112, true)⟩, ⟨[(18, 110), (20, 112), (27, 119)], [], some (110, false)⟩, ⟨[(18, 110), (28, 120)], [], none⟩, ⟨[(29, 121)], [], none⟩, ⟨[(30, 122)], [17], some (122, false)⟩, ⟨[(30, 122), (31, 123)], [], some (122, false)⟩, ⟨[(30, 122), (32, 124)], [], some (122, false)⟩, ⟨[(33, 125)], [16], some (125, true)⟩, ⟨[(33, 125), (34, 126)], [], some (125, true)⟩, ⟨[(33, 125), (35, 127)], [], some (125, true)⟩, ⟨[(30, 122), (33, 125), (36, 128)], [], some (122, false)⟩, ⟨[(30, 122), (37, 129)], [], none⟩]
    [(0, 92), (1, 93), (2, 94), (3, 95), (4, 96), (5, 97), (6, 98), (7, 99), (8, 100), (9, 101), (10, 102), (11, 103), (12, 104), (13, 105), (14, 106), (15, 107), (16, 108), (17, 109), (18, 110), (19, 111), (20, 112), (21, 113), (22, 114), (23, 115), (24, 116), (25, 117), (26, 118), (27, 119), (28, 120), (29, 121), (30, 122), (31, 123), (32, 124), (33, 125), (34, 126), (35, 127), (36, 128), (37, 129), (38, 130)] (by kernel_rfl) (by kernel_rfl) (by kernel_rfl) (by kernel_rfl) ?_ ?_ ?_
  · simp only [Gt.Monos]
    repeat' apply And.intro
    all_goals (first | exact trivial | exact Gt.Is.mono _ | exact NIs.mono _ _)
  · simp only [Gt.Obs]
    repeat' apply And.intro
    all_goals try exact trivial
    all_goals (
      intro a w5 hg
      have hg' : Below w9.heap.size w9 w5 := hg
      simp only [Gt.Pre, Gt.Kept, Gt.Guarded, Gt.tys, List.getD_cons_zero, List.getD_cons_succ, Gt.Is, Nat.zero_add, Nat.reduceAdd]
      intros
      try (refine ⟨fun _ => ?_, fun hne => absurd (by assumption) hne⟩))
    all_goals (first
      | exact Gt.ok_move rfl (by assumption)
      | exact Gt.ok_assign rfl (by assumption)
      | exact Gt.ok_pick rfl (by assumption) (by rw [if_pos rfl]; assumption)
      | (have k5 := (HP9.out.below hg' HP9.out.lt).c0
         refine Gt.ok_run ?_ rfl
         simp only [execOp, *]
         go_simp
         done)
      | (refine Gt.ok_run ?_ rfl
         simp only [execOp, resolve, List.map_toArray, List.map_cons, List.map_nil, *]
         go_simp
         done)
      | (exact ⟨fun h => absurd (show Value.bool true = Value.bool false from h.symm.trans (by assumption)) (by intro h; cases h), fun _ => trivial⟩)
      | (exact ⟨fun h => absurd (show Value.bool false = Value.bool true from h.symm.trans (by assumption)) (by intro h; cases h), fun _ => trivial⟩))
  · intro a w5 hg
    have hg' : Below w9.heap.size w9 w5 := hg
    simp only [Gt.Pre, Gt.tys, List.getD_cons_zero, List.getD_cons_succ, Gt.Is]
    intro h0 h1 h2 h3 h4 h5 h6 h7 h8 h9 h10 h11 h12 h13 h14 h15 h16 h17 h18 h19 h20 h21 h22 h23 h24 h25 h26 h27 h28 h29 h30 h31 h32 h33 h34 h35 h36 h37 h38
    show K1 _ _
    refine hK1 _ _ ?_
    simp only [Gt.puts, List.foldl_cons, List.foldl_nil, h0, h1, h2, h3, h4, h5, h6, h7, h8, h9, h10, h11, h12, h13, h14, h15, h16, h17, h18, h19, h20, h21, h22, h23, h24, h25, h26, h27, h28, h29, h30, h31, h32, h33, h34, h35, h36, h37, h38]
    simp only [Act.put, List.setIfInBounds_toArray, List.set_cons_zero, List.set_cons_succ]
    have HB10 := Lib.hid (HB9.out.trans (hg'.mono HB9.out.size))
    have HP10 := Lib.hid (HP9.out.below hg' HP9.out.lt)
    have HD10 := Lib.hid ((HD.out.below hg').more hg'.size)
    have HJ10 := Lib.hid (HJ.out.below hg')
    have HMG10 := Lib.hid ((HMG.out.below hg').more hg'.size)
    have HJV10 := Lib.hid (HJV.out.below hg')
    clear h0 h1 h2 h3 h4 h5 h6 h7 h8 h9 h10 h11 h12 h13 h14 h15 h16 h17 h18 h19 h20 h21 h22 h23 h24 h25 h26 h27 h28 h29 h30 h31 h32 h33 h34 h35 h36 h37 h38
    clear hg' hg
    obtain ⟨w10, hw10⟩ : ∃ w10, w10 = w5 := ⟨_, rfl⟩
    rw [← hw10] at HB10 HP10 HD10 HJ10 HMG10 HJV10
    rw [← hw10]
    clear hw10
    obtain ⟨τ, hτ⟩ : ∃ τ, τ = str (docL n k size P) := ⟨_, rfl⟩
    have HTG := Lib.hid hτ
    have HSI : Hid (∀ W5, Below w10.heap.size w10 W5 → Calls Try.prog 14 #[.slice Aw nw cw, .slice Av nw cv] W5 fun e w' => e = .returned (.bool true) ∧ ∃ n, w' = W5.drewN n) := Lib.hid fun W5 h5 => by
      have := sameInts_any Aw Av cw cv (wrongL n z R l P C) (wrongL n z R l P C) W5 (HJ10.out.below h5) (HJV10.out.below h5) (by have := wrongL_len n z R l P C; omega)
      rwa [← HNW.out, decide_eq_true (rfl : (wrongL n z R l P C) = (wrongL n z R l P C))] at this
    clear hτ
    go_wp2
    rename_i K2 hK2
    refine Gt.regionA [Gt.Is (.bool true), Gt.Is (.bool true), Gt.Is (.slice Ab size cb), Gt.Is (.string τ), Gt.Is (pv (n : Int) (t : Int) (k : Int) (e : Int) (r : Int)), Gt.Is (.int .i64 (size : Int)), Gt.Is (.slice Ag C cg), NIs size (docL n k size P), Gt.Is (.string τ), Gt.Is (.bool true), Gt.Is (.bool true), Gt.Is (.bool true), Gt.Is (.slice Aw nw cw), Gt.Is (.slice Av nw cv), Gt.Is (.bool true), Gt.Is (.bool true), Gt.Is (.bool true)] 160
      [⟨[], [], none⟩, ⟨[(0, 144)], [], none⟩, ⟨[(1, 145)], [12], some (145, true)⟩, ⟨[(1, 145), (2, 146)], [], some (145, true)⟩, ⟨[(1, 145)], [5], some (145, true)⟩, ⟨[(1, 145)], [1], some (145, true)⟩, ⟨[(1, 145)], [18], some (145, true)⟩, ⟨[(1, 145), (4, 148), (5, 149), (6, 150)], [], some (145, true)⟩, ⟨[(1, 145), (7, 151)], [], some (145, true)⟩, ⟨[(1, 145), (3, 147), (8, 152)], [], some (145, true)⟩, ⟨[(1, 145), (9, 153)], [], none⟩, ⟨[(10, 154)], [], none⟩, ⟨[(11, 155)], [13], some (155, true)⟩, ⟨[(11, 155)], [19], some (155, true)⟩, ⟨[(11, 155), (12, 156), (13, 157)], [], some (155, true)⟩, ⟨[(11, 155), (14, 158)], [], none⟩, ⟨[(15, 159)], [], none⟩]
      [(0, 144), (1, 145), (2, 146), (3, 147), (4, 148), (5, 149), (6, 150), (7, 151), (8, 152), (9, 153), (10, 154), (11, 155), (12, 156), (13, 157), (14, 158), (15, 159), (16, 10)] (by kernel_rfl) (by kernel_rfl) (by kernel_rfl) (by kernel_rfl) ?_ ?_ ?_
    · simp only [Gt.Monos]
      repeat' apply And.intro
      all_goals (first | exact trivial | exact Gt.Is.mono _ | exact NIs.mono _ _)
    · simp only [Gt.Obs]
      repeat' apply And.intro
      all_goals try exact trivial
      all_goals (
        intro a w5 hg
        have hg' : Below w10.heap.size w10 w5 := hg
        simp only [Gt.Pre, Gt.Kept, Gt.Guarded, Gt.tys, List.getD_cons_zero, List.getD_cons_succ, Gt.Is, Nat.zero_add, Nat.reduceAdd]
        intros
        try (refine ⟨fun _ => ?_, fun hne => absurd (by assumption) hne⟩))
      all_goals (first
        | exact Gt.ok_move rfl (by assumption)
        | exact Gt.ok_assign rfl (by assumption)
        | exact Gt.ok_pick rfl (by assumption) (by rw [if_pos rfl]; assumption)
        | (exact Gt.ok_call (f := 9) rfl #[] (by kernel_rfl) (by simp) ((answers_any _).mono fun e w6 h => ⟨_, h.1, h.2, rfl⟩))
        | (exact Gt.ok_load rfl (by assumption) (HP10.out.below hg' HP10.out.lt).load rfl)
        | (refine Gt.ok_call (f := 19) rfl #[pv (n : Int) (t : Int) (k : Int) (e : Int) (r : Int), .int .i64 (size : Int), .slice Ag C cg] (by kernel_rfl) (by simp [*] <;> rfl) ((rsecret_any n k size C t e r hk hnk Ag cg pag cpg P w5 ((HMG10.out.below hg').more hg'.size) HCE.out (by omega) (by omega) (fun c hc => by have := (HF.out.agd c hc).deg; omega)).mono ?_)
           rintro e w6 ⟨A6, c6, rfl, ho6, hb6⟩
           exact ⟨_, rfl, hb6, A6, c6, rfl, ho6.inn⟩)
        | (have k5 := conv_sl (P := Try.prog) (HD10.out.below hg').sl Try.underlying36 Try.underlying5 Try.underlying9 cb
           rw [docL_len, ← HTG.out] at k5
           exact Gt.ok_convert rfl (by assumption) k5 rfl)
        | (obtain ⟨A6, c6, hv6, hI6⟩ : NIs size (docL n k size P) (a.eval (.tmp 151)) w5 := by assumption
           have k5 := conv_sl (P := Try.prog) hI6.sl Try.underlying36 Try.underlying5 Try.underlying9 c6
           rw [docL_len, ← HTG.out] at k5
           exact Gt.ok_convert rfl hv6 k5 rfl)
        | (refine Gt.ok_call (f := 14) rfl #[.slice Aw nw cw, .slice Av nw cv] (by kernel_rfl) (by simp [*]) ((HSI.out w5 hg').mono ?_)
           rintro e w6 ⟨rfl, d6, rfl⟩
           exact ⟨_, rfl, Gw.Below.drewN (Below.refl _ _) d6, rfl⟩)
        | (refine Gt.ok_run ?_ rfl
           simp only [execOp, *]
           go_simp
           done))
    · intro a w5 hg
      have hg' : Below w10.heap.size w10 w5 := hg
      simp only [Gt.Pre, Gt.tys, List.getD_cons_zero, List.getD_cons_succ, Gt.Is]
      intro h0 h1 h2 h3 h4 h5 h6 h7 h8 h9 h10 h11 h12 h13 h14 h15 h16
      show K2 _ _
      refine hK2 _ _ ?_
      obtain ⟨_, _, h7, _⟩ := h7
      simp only [Gt.puts, List.foldl_cons, List.foldl_nil, h0, h1, h2, h3, h4, h5, h6, h7, h8, h9, h10, h11, h12, h13, h14, h15, h16]
      simp only [Act.put, List.setIfInBounds_toArray, List.set_cons_zero, List.set_cons_succ]
      have HB14 := Lib.hid (HB10.out.trans (hg'.mono HB10.out.size))
      clear h0 h1 h2 h3 h4 h5 h6 h7 h8 h9 h10 h11 h12 h13 h14 h15 h16
      clear hg' hg
      go_wp2
      go_ret
      exact ⟨rfl, HB14.out⟩
    
set_option maxRecDepth 100000 in
set_option maxHeartbeats 8000000 in
theorem side_far (n t k e r : Nat) (hg0 : goodB n t k e r = true) (ht : 1 ≤ t) (hk : 1 ≤ k) (hm : t + k + 2 * e ≤ n) (hnk : n + k ≤ 255) (hn30 : n ≤ 30) (size C : Nat) (hC : C = Sp.cnt size k) (hsz : size ≤ 3 * k) (ti : Int) (htw : (Lit.int .i64 ti).wf = true) (htb : (n : Int) ≤ ti) (A : Option Addr) (c M : Nat) (z : List Int) (A3 : Option Addr) (c3 R : Nat) (Q : Nat → Option Addr) (q : Nat → Nat) (l : Nat → List Nat) (w : World) (hM : M = z.length) (hM9 : M ≤ 9) (wi : InZ w w.heap.size A c z) (wm : MIn w w.heap.size A3 c3 R Q q l) (hRb : R ≤ 5864062014634) (P : Nat → List Nat) (hF : Fnd n t k e C z R l P) :
    Calls Try.prog 4 #[pv (n : Int) (t : Int) (k : Int) (e : Int) (r : Int), .int .i64 (size : Int), .int .i64 ti, .slice A M c, .slice A3 R c3] w fun e w' => e = .returned (.bool true) ∧ Below w.heap.size w w' := by
  have hCb : C ≤ size := by rw [hC]; exact Sp.cnt_le size k
  have HCE := Lib.hid hC
  have HMZ := Lib.hid hM
  have HF := Lib.hid hF
  obtain ⟨nw, hnw⟩ : ∃ nw, nw = (wrongL n z R l P C).length := ⟨_, rfl⟩
  have HNW := Lib.hid hnw
  clear hnw
  have hpb1 := Pbx.new w 23 n t k e r
  have hb1 : Below w.heap.size w (w.alloc (.cells #[.int .i64 (n : Int), .int .i64 (t : Int), .int .i64 (k : Int), .int .i64 (e : Int), .int .i64 (r : Int)] 23)) := (Below.refl _ w).alloc (Nat.le_refl _) _
  have HG := Lib.hid (ogood_any n t k e r A M c (w.alloc (.cells #[.int .i64 (n : Int), .int .i64 (t : Int), .int .i64 (k : Int), .int .i64 (e : Int), .int .i64 (r : Int)] 23)))
  rw [hg0, decide_eq_true hM9, decide_eq_true (show (n : Int) ≤ 30 by omega)] at HG
  obtain ⟨k3, hk3⟩ : ∃ k3, k3 = 3 * k := ⟨_, rfl⟩
  have f4 : (3 : Int) * (k : Int) = (k3 : Int) := by omega
  have f5 : ¬ ((k3 : Int) < (size : Int)) := by omega
  have f6 : ¬ ((size : Int) < 0) := by omega
  have f7 : ¬ ((256 : Int) < (size : Int)) := by omega
  have hszb : size ≤ 256 := by omega
  clear hM hF hC hk3 hsz
  go_enter Try.func4, Try.ntmps4
  go_wp2_with fail
  refine HG.out.mono ?_
  rintro _ w2 ⟨rfl, hb2⟩
  have HP2 := Lib.hid (hpb1.below hb2 hpb1.lt)
  have HB2 := Lib.hid (hb1.trans (hb2.mono hb1.size))
  clear hpb1 hb1 hb2 HG
  obtain ⟨y0, y1, y2, y3, y4⟩ := HP2.out
  go_wp2_with fail
  refine (new_any w2).mono ?_
  rintro _ w3 ⟨rfl, hF3, hb3⟩
  have HP3 := Lib.hid (HP2.out.below hb3 HP2.out.lt)
  have HB3 := Lib.hid (HB2.out.trans (hb3.mono HB2.out.size))
  have HF3 := Lib.hid hF3
  have HIZ3 := Lib.hid ((wi.below HB3.out).more HB3.out.size)
  have HMI3 := Lib.hid ((wm.below HB3.out).more HB3.out.size)
  clear y0 y1 y2 y3 y4 hb3 hF3
  obtain ⟨y0, y1, y2, y3, y4⟩ := HP3.out
  go_wp2_with fail
  refine (oopen_any n t k e r R size hg0 w2.heap.size A A3 c c3 M z HMZ.out Q q l w3 HF3.out HIZ3.out HMI3.out hszb (by omega) hRb).mono ?_
  rintro en w4 h4
  obtain ⟨v, rfl, h5, h6⟩ := op_yes (nw := nw) h4 hk (by rw [← HCE.out]; exact HF.out) (by rw [← HCE.out]; exact HNW.out)
  rw [← HCE.out] at h5
  obtain ⟨Ab, cb, Aw, cw, rfl, hdoc, hwr⟩ := h5
  have HB4 := Lib.hid (HB3.out.trans (h6.mono HB3.out.size))
  have HP4 := Lib.hid (HP3.out.below h6 HP3.out.lt)
  have HF4 := Lib.hid (HF3.out.below h6 HF3.out.lt)
  have HIZ4 := Lib.hid ((HIZ3.out.below h6).more h6.size)
  have HMI4 := Lib.hid ((HMI3.out.below h6).more h6.size)
  have HD4 := Lib.hid hdoc
  have HJ4 := Lib.hid hwr
  clear hdoc hwr
  clear y0 y1 y2 y3 y4 h4 h6
  obtain ⟨y0, y1, y2, y3, y4⟩ := HP4.out
  have HCO := Lib.hid (rcols_any size k (by omega) (by omega) (by omega) w4)
  rw [← HCE.out] at HCO
  go_wp2_with fail
  refine HCO.out.mono ?_
  rintro _ w4 ⟨rfl, rfl⟩
  go_wp2_with fail
  refine (at_none n t k e r R C ti hg0 htw w2.heap.size A A3 c c3 M z HMZ.out Q q l w4 HF4.out HIZ4.out HMI4.out (by omega) (by omega) hRb (.inr (.inr htb))).mono ?_
  rintro en w7 ⟨As, cs, rfl, hb7⟩
  have HB7 := Lib.hid (HB4.out.trans (hb7.mono HB4.out.size))
  have HP7 := Lib.hid (HP4.out.below hb7 HP4.out.lt)
  have HIZ7 := Lib.hid ((HIZ4.out.below hb7).more hb7.size)
  have HMI7 := Lib.hid ((HMI4.out.below hb7).more hb7.size)
  have HD7 := Lib.hid ((HD4.out.below hb7).more hb7.size)
  have HJ7 := Lib.hid (HJ4.out.below hb7)
  clear hb7
  clear y0 y1 y2 y3 y4
  obtain ⟨y0, y1, y2, y3, y4⟩ := HP7.out
  go_wp2_with fail
  refine (rfind_any n t k e R C r (by omega) ht hk (by omega) (by omega) A A3 c c3 M z HMZ.out Q q l w7 HIZ7.out HMI7.out (by omega) (by omega) (by omega)).mono ?_
  rintro en w9 h9
  obtain ⟨v, rfl, h10, hb9⟩ := fd_yes h9 HF.out HNW.out
  obtain ⟨Ag, cg, pag, cpg, Av, cv, rfl, hMg, hJv⟩ := h10
  have HB9 := Lib.hid (HB7.out.trans (hb9.mono HB7.out.size))
  have HP9 := Lib.hid (HP7.out.below hb9 HP7.out.lt)
  have HD := Lib.hid ((HD7.out.below hb9).more hb9.size)
  have HJ := Lib.hid (HJ7.out.below hb9)
  have HMG := Lib.hid hMg
  have HJV := Lib.hid hJv
  clear hMg hJv
  clear y0 y1 y2 y3 y4 h9 hb9
  have t1 : (0 : Int) ≤ ti := by omega
  have t2 : ¬ (ti < (n : Int)) := by omega
  have y0 := HP9.out.c0
  go_wp2
  clear y0
  rename_i K1 hK1
  refine Gt.regionA [Gt.Is (.bool true), Gt.Is (.bool true), Gt.Is (.bool false), Gt.Is (.bool false), Gt.Is (.bool false), Gt.Is (.bool true), Gt.Is (.bool true), Gt.Is (.int .i64 ti), Gt.Is (.bool true), Gt.Is (.bool true), Gt.Is (.bool true), Gt.Is (.int .i64 ti), Gt.Is (.pointer (some ⟨w.heap.size, 0, none⟩)), Gt.Is (.int .i64 (n : Int)), Gt.Is (.bool false), Gt.Is (.bool false), Gt.Is (.bool false), Gt.Is (.bool false), Gt.Is (.bool false), Gt.Is (.bool false), Gt.Is (.bool false), Gt.Is undef, Gt.Is undef, Gt.Is undef, Gt.Is undef, Gt.Is undef, Gt.Is undef, Gt.Is undef, Gt.Is (.bool false), Gt.Is (.bool false), Gt.Is (.bool false), Gt.Is (.bool false), Gt.Is (.bool true), Gt.Is (.bool true), Gt.Is (.slice As 0 cs), Gt.Is (.int .i64 0), Gt.Is (.bool false), Gt.Is (.bool false), Gt.Is (.bool false)] 160
    [⟨[], [14], none⟩, ⟨[], [20], none⟩, ⟨[(0, 92), (1, 93)], [], none⟩, ⟨[(2, 94)], [], none⟩, ⟨[(3, 95)], [17], some (95, false)⟩, ⟨[(3, 95)], [20], some (95, false)⟩, ⟨[(3, 95), (5, 97)], [], some (95, false)⟩, ⟨[(6, 98)], [2], some (98, true)⟩, ⟨[(6, 98), (7, 99)], [], some (98, true)⟩, ⟨[(3, 95), (6, 98), (8, 100)], [], some (95, false)⟩, ⟨[(3, 95), (9, 101)], [], some (95, false)⟩, ⟨[(10, 102)], [2], some (102, true)⟩, ⟨[(10, 102)], [5], some (102, true)⟩, ⟨[(10, 102), (12, 104)], [], some (102, true)⟩, ⟨[(10, 102), (11, 103), (13, 105)], [], some (102, true)⟩, ⟨[(3, 95), (10, 102), (14, 106)], [], some (95, false)⟩, ⟨[(3, 95), (4, 96), (15, 107)], [], some (95, false)⟩, ⟨[(3, 95), (16, 108)], [], none⟩, ⟨[(17, 109)], [], none⟩, ⟨[(18, 110)], [17], some (110, false)⟩, ⟨[(18, 110), (19, 111)], [], some (110, false)⟩, ⟨[(20, 112)], [16], some (112, true)⟩, ⟨[(20, 112), (21, 113)], [], some (112, true)⟩, ⟨[(20, 112)], [18], some (112, true)⟩, ⟨[(20, 112)], [2], some (112, true)⟩, ⟨[(20, 112), (23, 115), (24, 116)], [], some (112, true)⟩, ⟨[(20, 112), (25, 117)], [], some (112, true)⟩, ⟨[(20, 112), (22, 114), (26, 118)], [], some (112, true)⟩, ⟨[(18, 110), (20, 112), (27, 119)], [], some (110, false)⟩, ⟨[(18, 110), (28, 120)], [], none⟩, ⟨[(29, 121)], [], none⟩, ⟨[(30, 122)], [17], some (122, false)⟩, ⟨[(30, 122), (31, 123)], [], some (122, false)⟩, ⟨[(30, 122), (32, 124)], [], some (122, false)⟩, ⟨[(33, 125)], [16], some (125, true)⟩, ⟨[(33, 125), (34, 126)], [], some (125, true)⟩, ⟨[(33, 125), (35, 127)], [], some (125, true)⟩, ⟨[(30, 122), (33, 125), (36, 128)], [], some (122, false)⟩, ⟨[(30, 122), (37, 129)], [], none⟩]
    [(0, 92), (1, 93), (2, 94), (3, 95), (4, 96), (5, 97), (6, 98), (7, 99), (8, 100), (9, 101), (10, 102), (11, 103), (12, 104), (13, 105), (14, 106), (15, 107), (16, 108), (17, 109), (18, 110), (19, 111), (20, 112), (21, 113), (22, 114), (23, 115), (24, 116), (25, 117), (26, 118), (27, 119), (28, 120), (29, 121), (30, 122), (31, 123), (32, 124), (33, 125), (34, 126), (35, 127), (36, 128), (37, 129), (38, 130)] (by kernel_rfl) (by kernel_rfl) (by kernel_rfl) (by kernel_rfl) ?_ ?_ ?_
  · simp only [Gt.Monos]
    repeat' apply And.intro
    all_goals (first | exact trivial | exact Gt.Is.mono _ | exact NIs.mono _ _)
  · simp only [Gt.Obs]
    repeat' apply And.intro
    all_goals try exact trivial
    all_goals (
      intro a w5 hg
      have hg' : Below w9.heap.size w9 w5 := hg
      simp only [Gt.Pre, Gt.Kept, Gt.Guarded, Gt.tys, List.getD_cons_zero, List.getD_cons_succ, Gt.Is, Nat.zero_add, Nat.reduceAdd]
      intros
      try (refine ⟨fun _ => ?_, fun hne => absurd (by assumption) hne⟩))
    all_goals (first
      | exact Gt.ok_move rfl (by assumption)
      | exact Gt.ok_assign rfl (by assumption)
      | exact Gt.ok_pick rfl (by assumption) (by rw [if_pos rfl]; assumption)
      | (have k5 := (HP9.out.below hg' HP9.out.lt).c0
         refine Gt.ok_run ?_ rfl
         simp only [execOp, *]
         go_simp
         done)
      | (refine Gt.ok_run ?_ rfl
         simp only [execOp, resolve, List.map_toArray, List.map_cons, List.map_nil, *]
         go_simp
         done)
      | (exact ⟨fun h => absurd (show Value.bool true = Value.bool false from h.symm.trans (by assumption)) (by intro h; cases h), fun _ => trivial⟩)
      | (exact ⟨fun h => absurd (show Value.bool false = Value.bool true from h.symm.trans (by assumption)) (by intro h; cases h), fun _ => trivial⟩))
  · intro a w5 hg
    have hg' : Below w9.heap.size w9 w5 := hg
    simp only [Gt.Pre, Gt.tys, List.getD_cons_zero, List.getD_cons_succ, Gt.Is]
    intro h0 h1 h2 h3 h4 h5 h6 h7 h8 h9 h10 h11 h12 h13 h14 h15 h16 h17 h18 h19 h20 h21 h22 h23 h24 h25 h26 h27 h28 h29 h30 h31 h32 h33 h34 h35 h36 h37 h38
    show K1 _ _
    refine hK1 _ _ ?_
    simp only [Gt.puts, List.foldl_cons, List.foldl_nil, h0, h1, h2, h3, h4, h5, h6, h7, h8, h9, h10, h11, h12, h13, h14, h15, h16, h17, h18, h19, h20, h21, h22, h23, h24, h25, h26, h27, h28, h29, h30, h31, h32, h33, h34, h35, h36, h37, h38]
    simp only [Act.put, List.setIfInBounds_toArray, List.set_cons_zero, List.set_cons_succ]
    have HB10 := Lib.hid (HB9.out.trans (hg'.mono HB9.out.size))
    have HP10 := Lib.hid (HP9.out.below hg' HP9.out.lt)
    have HD10 := Lib.hid ((HD.out.below hg').more hg'.size)
    have HJ10 := Lib.hid (HJ.out.below hg')
    have HMG10 := Lib.hid ((HMG.out.below hg').more hg'.size)
    have HJV10 := Lib.hid (HJV.out.below hg')
    clear h0 h1 h2 h3 h4 h5 h6 h7 h8 h9 h10 h11 h12 h13 h14 h15 h16 h17 h18 h19 h20 h21 h22 h23 h24 h25 h26 h27 h28 h29 h30 h31 h32 h33 h34 h35 h36 h37 h38
    clear hg' hg
    obtain ⟨w10, hw10⟩ : ∃ w10, w10 = w5 := ⟨_, rfl⟩
    rw [← hw10] at HB10 HP10 HD10 HJ10 HMG10 HJV10
    rw [← hw10]
    clear hw10
    obtain ⟨τ, hτ⟩ : ∃ τ, τ = str (docL n k size P) := ⟨_, rfl⟩
    have HTG := Lib.hid hτ
    have HSI : Hid (∀ W5, Below w10.heap.size w10 W5 → Calls Try.prog 14 #[.slice Aw nw cw, .slice Av nw cv] W5 fun e w' => e = .returned (.bool true) ∧ ∃ n, w' = W5.drewN n) := Lib.hid fun W5 h5 => by
      have := sameInts_any Aw Av cw cv (wrongL n z R l P C) (wrongL n z R l P C) W5 (HJ10.out.below h5) (HJV10.out.below h5) (by have := wrongL_len n z R l P C; omega)
      rwa [← HNW.out, decide_eq_true (rfl : (wrongL n z R l P C) = (wrongL n z R l P C))] at this
    clear hτ
    go_wp2
    rename_i K2 hK2
    refine Gt.regionA [Gt.Is (.bool true), Gt.Is (.bool true), Gt.Is (.slice Ab size cb), Gt.Is (.string τ), Gt.Is (pv (n : Int) (t : Int) (k : Int) (e : Int) (r : Int)), Gt.Is (.int .i64 (size : Int)), Gt.Is (.slice Ag C cg), NIs size (docL n k size P), Gt.Is (.string τ), Gt.Is (.bool true), Gt.Is (.bool true), Gt.Is (.bool true), Gt.Is (.slice Aw nw cw), Gt.Is (.slice Av nw cv), Gt.Is (.bool true), Gt.Is (.bool true), Gt.Is (.bool true)] 160
      [⟨[], [], none⟩, ⟨[(0, 144)], [], none⟩, ⟨[(1, 145)], [12], some (145, true)⟩, ⟨[(1, 145), (2, 146)], [], some (145, true)⟩, ⟨[(1, 145)], [5], some (145, true)⟩, ⟨[(1, 145)], [1], some (145, true)⟩, ⟨[(1, 145)], [18], some (145, true)⟩, ⟨[(1, 145), (4, 148), (5, 149), (6, 150)], [], some (145, true)⟩, ⟨[(1, 145), (7, 151)], [], some (145, true)⟩, ⟨[(1, 145), (3, 147), (8, 152)], [], some (145, true)⟩, ⟨[(1, 145), (9, 153)], [], none⟩, ⟨[(10, 154)], [], none⟩, ⟨[(11, 155)], [13], some (155, true)⟩, ⟨[(11, 155)], [19], some (155, true)⟩, ⟨[(11, 155), (12, 156), (13, 157)], [], some (155, true)⟩, ⟨[(11, 155), (14, 158)], [], none⟩, ⟨[(15, 159)], [], none⟩]
      [(0, 144), (1, 145), (2, 146), (3, 147), (4, 148), (5, 149), (6, 150), (7, 151), (8, 152), (9, 153), (10, 154), (11, 155), (12, 156), (13, 157), (14, 158), (15, 159), (16, 10)] (by kernel_rfl) (by kernel_rfl) (by kernel_rfl) (by kernel_rfl) ?_ ?_ ?_
    · simp only [Gt.Monos]
      repeat' apply And.intro
      all_goals (first | exact trivial | exact Gt.Is.mono _ | exact NIs.mono _ _)
    · simp only [Gt.Obs]
      repeat' apply And.intro
      all_goals try exact trivial
      all_goals (
        intro a w5 hg
        have hg' : Below w10.heap.size w10 w5 := hg
        simp only [Gt.Pre, Gt.Kept, Gt.Guarded, Gt.tys, List.getD_cons_zero, List.getD_cons_succ, Gt.Is, Nat.zero_add, Nat.reduceAdd]
        intros
        try (refine ⟨fun _ => ?_, fun hne => absurd (by assumption) hne⟩))
      all_goals (first
        | exact Gt.ok_move rfl (by assumption)
        | exact Gt.ok_assign rfl (by assumption)
        | exact Gt.ok_pick rfl (by assumption) (by rw [if_pos rfl]; assumption)
        | (exact Gt.ok_call (f := 9) rfl #[] (by kernel_rfl) (by simp) ((answers_any _).mono fun e w6 h => ⟨_, h.1, h.2, rfl⟩))
        | (exact Gt.ok_load rfl (by assumption) (HP10.out.below hg' HP10.out.lt).load rfl)
        | (refine Gt.ok_call (f := 19) rfl #[pv (n : Int) (t : Int) (k : Int) (e : Int) (r : Int), .int .i64 (size : Int), .slice Ag C cg] (by kernel_rfl) (by simp [*] <;> rfl) ((rsecret_any n k size C t e r hk hnk Ag cg pag cpg P w5 ((HMG10.out.below hg').more hg'.size) HCE.out (by omega) (by omega) (fun c hc => by have := (HF.out.agd c hc).deg; omega)).mono ?_)
           rintro e w6 ⟨A6, c6, rfl, ho6, hb6⟩
           exact ⟨_, rfl, hb6, A6, c6, rfl, ho6.inn⟩)
        | (have k5 := conv_sl (P := Try.prog) (HD10.out.below hg').sl Try.underlying36 Try.underlying5 Try.underlying9 cb
           rw [docL_len, ← HTG.out] at k5
           exact Gt.ok_convert rfl (by assumption) k5 rfl)
        | (obtain ⟨A6, c6, hv6, hI6⟩ : NIs size (docL n k size P) (a.eval (.tmp 151)) w5 := by assumption
           have k5 := conv_sl (P := Try.prog) hI6.sl Try.underlying36 Try.underlying5 Try.underlying9 c6
           rw [docL_len, ← HTG.out] at k5
           exact Gt.ok_convert rfl hv6 k5 rfl)
        | (refine Gt.ok_call (f := 14) rfl #[.slice Aw nw cw, .slice Av nw cv] (by kernel_rfl) (by simp [*]) ((HSI.out w5 hg').mono ?_)
           rintro e w6 ⟨rfl, d6, rfl⟩
           exact ⟨_, rfl, Gw.Below.drewN (Below.refl _ _) d6, rfl⟩)
        | (refine Gt.ok_run ?_ rfl
           simp only [execOp, *]
           go_simp
           done))
    · intro a w5 hg
      have hg' : Below w10.heap.size w10 w5 := hg
      simp only [Gt.Pre, Gt.tys, List.getD_cons_zero, List.getD_cons_succ, Gt.Is]
      intro h0 h1 h2 h3 h4 h5 h6 h7 h8 h9 h10 h11 h12 h13 h14 h15 h16
      show K2 _ _
      refine hK2 _ _ ?_
      obtain ⟨_, _, h7, _⟩ := h7
      simp only [Gt.puts, List.foldl_cons, List.foldl_nil, h0, h1, h2, h3, h4, h5, h6, h7, h8, h9, h10, h11, h12, h13, h14, h15, h16]
      simp only [Act.put, List.setIfInBounds_toArray, List.set_cons_zero, List.set_cons_succ]
      have HB14 := Lib.hid (HB10.out.trans (hg'.mono HB10.out.size))
      clear h0 h1 h2 h3 h4 h5 h6 h7 h8 h9 h10 h11 h12 h13 h14 h15 h16
      clear hg' hg
      go_wp2
      go_ret
      exact ⟨rfl, HB14.out⟩
    
set_option maxRecDepth 100000 in
set_option maxHeartbeats 8000000 in
theorem side_no (n t k e r : Nat) (hg0 : goodB n t k e r = true) (ht : 1 ≤ t) (hk : 1 ≤ k) (hm : t + k + 2 * e ≤ n) (_hnk : n + k ≤ 255) (hn30 : n ≤ 30) (size C : Nat) (hC : C = Sp.cnt size k) (hsz : size ≤ 3 * k) (ti : Int) (htw : (Lit.int .i64 ti).wf = true) (A : Option Addr) (c M : Nat) (z : List Int) (A3 : Option Addr) (c3 R : Nat) (Q : Nat → Option Addr) (q : Nat → Nat) (l : Nat → List Nat) (w : World) (hM : M = z.length) (hM9 : M ≤ 9) (wi : InZ w w.heap.size A c z) (wm : MIn w w.heap.size A3 c3 R Q q l) (hRb : R ≤ 5864062014634) (hF : ¬ ∃ P, Fnd n t k e C z R l P) :
    Calls Try.prog 4 #[pv (n : Int) (t : Int) (k : Int) (e : Int) (r : Int), .int .i64 (size : Int), .int .i64 ti, .slice A M c, .slice A3 R c3] w fun e w' => e = .returned (.bool true) ∧ Below w.heap.size w w' := by
  have hCb : C ≤ size := by rw [hC]; exact Sp.cnt_le size k
  have HCE := Lib.hid hC
  have HMZ := Lib.hid hM
  have HF := Lib.hid hF
  have hpb1 := Pbx.new w 23 n t k e r
  have hb1 : Below w.heap.size w (w.alloc (.cells #[.int .i64 (n : Int), .int .i64 (t : Int), .int .i64 (k : Int), .int .i64 (e : Int), .int .i64 (r : Int)] 23)) := (Below.refl _ w).alloc (Nat.le_refl _) _
  have HG := Lib.hid (ogood_any n t k e r A M c (w.alloc (.cells #[.int .i64 (n : Int), .int .i64 (t : Int), .int .i64 (k : Int), .int .i64 (e : Int), .int .i64 (r : Int)] 23)))
  rw [hg0, decide_eq_true hM9, decide_eq_true (show (n : Int) ≤ 30 by omega)] at HG
  obtain ⟨k3, hk3⟩ : ∃ k3, k3 = 3 * k := ⟨_, rfl⟩
  have f4 : (3 : Int) * (k : Int) = (k3 : Int) := by omega
  have f5 : ¬ ((k3 : Int) < (size : Int)) := by omega
  have f6 : ¬ ((size : Int) < 0) := by omega
  have f7 : ¬ ((256 : Int) < (size : Int)) := by omega
  have hszb : size ≤ 256 := by omega
  clear hM hF hC hk3 hsz
  go_enter Try.func4, Try.ntmps4
  go_wp2_with fail
  refine HG.out.mono ?_
  rintro _ w2 ⟨rfl, hb2⟩
  have HP2 := Lib.hid (hpb1.below hb2 hpb1.lt)
  have HB2 := Lib.hid (hb1.trans (hb2.mono hb1.size))
  clear hpb1 hb1 hb2 HG
  obtain ⟨y0, y1, y2, y3, y4⟩ := HP2.out
  go_wp2_with fail
  refine (new_any w2).mono ?_
  rintro _ w3 ⟨rfl, hF3, hb3⟩
  have HP3 := Lib.hid (HP2.out.below hb3 HP2.out.lt)
  have HB3 := Lib.hid (HB2.out.trans (hb3.mono HB2.out.size))
  have HF3 := Lib.hid hF3
  have HIZ3 := Lib.hid ((wi.below HB3.out).more HB3.out.size)
  have HMI3 := Lib.hid ((wm.below HB3.out).more HB3.out.size)
  clear y0 y1 y2 y3 y4 hb3 hF3
  obtain ⟨y0, y1, y2, y3, y4⟩ := HP3.out
  go_wp2_with fail
  refine (oopen_any n t k e r R size hg0 w2.heap.size A A3 c c3 M z HMZ.out Q q l w3 HF3.out HIZ3.out HMI3.out hszb (by omega) hRb).mono ?_
  rintro en w4 h4
  obtain ⟨v, rfl, h5, h6⟩ := op_no h4 (by rw [← HCE.out]; exact HF.out)
  obtain ⟨Ab, cb, Aw, cw, rfl⟩ := h5
  have HB4 := Lib.hid (HB3.out.trans (h6.mono HB3.out.size))
  have HP4 := Lib.hid (HP3.out.below h6 HP3.out.lt)
  have HF4 := Lib.hid (HF3.out.below h6 HF3.out.lt)
  have HIZ4 := Lib.hid ((HIZ3.out.below h6).more h6.size)
  have HMI4 := Lib.hid ((HMI3.out.below h6).more h6.size)
  clear y0 y1 y2 y3 y4 h4 h6
  obtain ⟨y0, y1, y2, y3, y4⟩ := HP4.out
  have HCO := Lib.hid (rcols_any size k (by omega) (by omega) (by omega) w4)
  rw [← HCE.out] at HCO
  go_wp2_with fail
  refine HCO.out.mono ?_
  rintro _ w4 ⟨rfl, rfl⟩
  go_wp2_with fail
  refine (at_none n t k e r R C ti hg0 htw w2.heap.size A A3 c c3 M z HMZ.out Q q l w4 HF4.out HIZ4.out HMI4.out (by omega) (by omega) hRb (.inl HF.out)).mono ?_
  rintro en w7 ⟨As, cs, rfl, hb7⟩
  have HB7 := Lib.hid (HB4.out.trans (hb7.mono HB4.out.size))
  have HP7 := Lib.hid (HP4.out.below hb7 HP4.out.lt)
  have HIZ7 := Lib.hid ((HIZ4.out.below hb7).more hb7.size)
  have HMI7 := Lib.hid ((HMI4.out.below hb7).more hb7.size)
  clear hb7
  clear y0 y1 y2 y3 y4
  obtain ⟨y0, y1, y2, y3, y4⟩ := HP7.out
  go_wp2_with fail
  refine (rfind_any n t k e R C r (by omega) ht hk (by omega) (by omega) A A3 c c3 M z HMZ.out Q q l w7 HIZ7.out HMI7.out (by omega) (by omega) (by omega)).mono ?_
  rintro en w9 h9
  obtain ⟨v, rfl, h10, hb9⟩ := fd_no h9 HF.out
  obtain ⟨Ag, cg, Av, cv, rfl⟩ := h10
  have HB9 := Lib.hid (HB7.out.trans (hb9.mono HB7.out.size))
  have HP9 := Lib.hid (HP7.out.below hb9 HP7.out.lt)
  clear y0 y1 y2 y3 y4 h9 hb9

  have y0 := HP9.out.c0
  go_wp2
  clear y0
  rename_i K1 hK1
  refine Gt.regionA [Gt.Is (.bool false), Gt.Is (.bool false), Gt.Is (.bool false), Gt.Is (.bool false), Gt.Is (.bool false), Gt.Is (.bool false), Gt.Is (.bool false), Gt.Is undef, Gt.Is undef, Gt.Is (.bool false), Gt.Is (.bool false), Gt.Is undef, Gt.Is undef, Gt.Is undef, Gt.Is undef, Gt.Is (.bool false), Gt.Is (.bool false), Gt.Is (.bool false), Gt.Is (.bool false), Gt.Is (.bool false), Gt.Is (.bool false), Gt.Is undef, Gt.Is undef, Gt.Is undef, Gt.Is undef, Gt.Is undef, Gt.Is undef, Gt.Is undef, Gt.Is (.bool false), Gt.Is (.bool false), Gt.Is (.bool false), Gt.Is (.bool false), Gt.Is (.bool true), Gt.Is (.bool true), Gt.Is (.slice As 0 cs), Gt.Is (.int .i64 0), Gt.Is (.bool false), Gt.Is (.bool false), Gt.Is (.bool false)] 160
    [⟨[], [14], none⟩, ⟨[], [20], none⟩, ⟨[(0, 92), (1, 93)], [], none⟩, ⟨[(2, 94)], [], none⟩, ⟨[(3, 95)], [17], some (95, false)⟩, ⟨[(3, 95)], [20], some (95, false)⟩, ⟨[(3, 95), (5, 97)], [], some (95, false)⟩, ⟨[(6, 98)], [2], some (98, true)⟩, ⟨[(6, 98), (7, 99)], [], some (98, true)⟩, ⟨[(3, 95), (6, 98), (8, 100)], [], some (95, false)⟩, ⟨[(3, 95), (9, 101)], [], some (95, false)⟩, ⟨[(10, 102)], [2], some (102, true)⟩, ⟨[(10, 102)], [5], some (102, true)⟩, ⟨[(10, 102), (12, 104)], [], some (102, true)⟩, ⟨[(10, 102), (11, 103), (13, 105)], [], some (102, true)⟩, ⟨[(3, 95), (10, 102), (14, 106)], [], some (95, false)⟩, ⟨[(3, 95), (4, 96), (15, 107)], [], some (95, false)⟩, ⟨[(3, 95), (16, 108)], [], none⟩, ⟨[(17, 109)], [], none⟩, ⟨[(18, 110)], [17], some (110, false)⟩, ⟨[(18, 110), (19, 111)], [], some (110, false)⟩, ⟨[(20, 112)], [16], some (112, true)⟩, ⟨[(20, 112), (21, 113)], [], some (112, true)⟩, ⟨[(20, 112)], [18], some (112, true)⟩, ⟨[(20, 112)], [2], some (112, true)⟩, ⟨[(20, 112), (23, 115), (24, 116)], [], some (112, true)⟩, ⟨[(20, 112), (25, 117)], [], some (112, true)⟩, ⟨[(20, 112), (22, 114), (26, 118)], [], some (112, true)⟩, ⟨[(18, 110), (20, 112), (27, 119)], [], some (110, false)⟩, ⟨[(18, 110), (28, 120)], [], none⟩, ⟨[(29, 121)], [], none⟩, ⟨[(30, 122)], [17], some (122, false)⟩, ⟨[(30, 122), (31, 123)], [], some (122, false)⟩, ⟨[(30, 122), (32, 124)], [], some (122, false)⟩, ⟨[(33, 125)], [16], some (125, true)⟩, ⟨[(33, 125), (34, 126)], [], some (125, true)⟩, ⟨[(33, 125), (35, 127)], [], some (125, true)⟩, ⟨[(30, 122), (33, 125), (36, 128)], [], some (122, false)⟩, ⟨[(30, 122), (37, 129)], [], none⟩]
    [(0, 92), (1, 93), (2, 94), (3, 95), (4, 96), (5, 97), (6, 98), (7, 99), (8, 100), (9, 101), (10, 102), (11, 103), (12, 104), (13, 105), (14, 106), (15, 107), (16, 108), (17, 109), (18, 110), (19, 111), (20, 112), (21, 113), (22, 114), (23, 115), (24, 116), (25, 117), (26, 118), (27, 119), (28, 120), (29, 121), (30, 122), (31, 123), (32, 124), (33, 125), (34, 126), (35, 127), (36, 128), (37, 129), (38, 130)] (by kernel_rfl) (by kernel_rfl) (by kernel_rfl) (by kernel_rfl) ?_ ?_ ?_
  · simp only [Gt.Monos]
    repeat' apply And.intro
    all_goals (first | exact trivial | exact Gt.Is.mono _ | exact NIs.mono _ _)
  · simp only [Gt.Obs]
    repeat' apply And.intro
    all_goals try exact trivial
    all_goals (
      intro a w5 hg
      have hg' : Below w9.heap.size w9 w5 := hg
      simp only [Gt.Pre, Gt.Kept, Gt.Guarded, Gt.tys, List.getD_cons_zero, List.getD_cons_succ, Gt.Is, Nat.zero_add, Nat.reduceAdd]
      intros
      try (refine ⟨fun _ => ?_, fun hne => absurd (by assumption) hne⟩))
    all_goals (first
      | exact Gt.ok_move rfl (by assumption)
      | exact Gt.ok_assign rfl (by assumption)
      | exact Gt.ok_pick rfl (by assumption) (by rw [if_pos rfl]; assumption)
      | (have k5 := (HP9.out.below hg' HP9.out.lt).c0
         refine Gt.ok_run ?_ rfl
         simp only [execOp, *]
         go_simp
         done)
      | (refine Gt.ok_run ?_ rfl
         simp only [execOp, resolve, List.map_toArray, List.map_cons, List.map_nil, *]
         go_simp
         done)
      | (exact ⟨fun h => absurd (show Value.bool true = Value.bool false from h.symm.trans (by assumption)) (by intro h; cases h), fun _ => trivial⟩)
      | (exact ⟨fun h => absurd (show Value.bool false = Value.bool true from h.symm.trans (by assumption)) (by intro h; cases h), fun _ => trivial⟩))
  · intro a w5 hg
    have hg' : Below w9.heap.size w9 w5 := hg
    simp only [Gt.Pre, Gt.tys, List.getD_cons_zero, List.getD_cons_succ, Gt.Is]
    intro h0 h1 h2 h3 h4 h5 h6 h7 h8 h9 h10 h11 h12 h13 h14 h15 h16 h17 h18 h19 h20 h21 h22 h23 h24 h25 h26 h27 h28 h29 h30 h31 h32 h33 h34 h35 h36 h37 h38
    show K1 _ _
    refine hK1 _ _ ?_
    simp only [Gt.puts, List.foldl_cons, List.foldl_nil, h0, h1, h2, h3, h4, h5, h6, h7, h8, h9, h10, h11, h12, h13, h14, h15, h16, h17, h18, h19, h20, h21, h22, h23, h24, h25, h26, h27, h28, h29, h30, h31, h32, h33, h34, h35, h36, h37, h38]
    simp only [Act.put, List.setIfInBounds_toArray, List.set_cons_zero, List.set_cons_succ]
    have HB10 := Lib.hid (HB9.out.trans (hg'.mono HB9.out.size))
    clear h0 h1 h2 h3 h4 h5 h6 h7 h8 h9 h10 h11 h12 h13 h14 h15 h16 h17 h18 h19 h20 h21 h22 h23 h24 h25 h26 h27 h28 h29 h30 h31 h32 h33 h34 h35 h36 h37 h38
    clear hg' hg
    go_wp2_with fail
    refine (answers_any w5).mono ?_
    rintro _ w11 ⟨rfl, hb11⟩
    go_wp2
    go_ret
    exact ⟨rfl, HB10.out.trans (hb11.mono HB10.out.size)⟩
set_option maxRecDepth 100000 in
set_option maxHeartbeats 1000000 in
theorem side_bad (a0 T0 K0 E0 R0 si ti : Int) (A : Option Addr) (c M : Nat) (A3 : Option Addr) (c3 R : Nat) (w : World) (hbad : (goodB a0 T0 K0 E0 R0 && decide (M ≤ 9) && decide (a0 ≤ 30)) = false) :
    Calls Try.prog 4 #[pv a0 T0 K0 E0 R0, .int .i64 si, .int .i64 ti, .slice A M c, .slice A3 R c3] w fun e w' => e = .returned (.bool true) ∧ Below w.heap.size w w' := by
  have hb1 : Below w.heap.size w (w.alloc (.cells #[.int .i64 a0, .int .i64 T0, .int .i64 K0, .int .i64 E0, .int .i64 R0] 23)) := (Below.refl _ w).alloc (Nat.le_refl _) _
  have HG := Lib.hid (ogood_any a0 T0 K0 E0 R0 A M c (w.alloc (.cells #[.int .i64 a0, .int .i64 T0, .int .i64 K0, .int .i64 E0, .int .i64 R0] 23)))
  rw [hbad] at HG
  clear hbad
  go_enter Try.func4, Try.ntmps4
  go_wp2_with fail
  refine HG.out.mono ?_
  rintro _ w2 ⟨rfl, hb2⟩
  have HB2 := Lib.hid (hb1.trans (hb2.mono hb1.size))
  clear hb1 hb2 HG
  go_wp2_with fail
  refine (answers_any w2).mono ?_
  rintro _ w3 ⟨rfl, hb3⟩
  go_wp2
  go_ret
  exact ⟨rfl, HB2.out.trans (hb3.mono HB2.out.size)⟩
set_option maxRecDepth 100000 in
set_option maxHeartbeats 1000000 in
theorem side_big (n t k e r : Nat) (si ti : Int) (A : Option Addr) (c M : Nat) (A3 : Option Addr) (c3 R : Nat) (w : World) (_hkb : k ≤ 255) (hgd : (goodB n t k e r && decide (M ≤ 9) && decide ((n : Int) ≤ 30)) = true) (h1 : 3 * (k : Int) < si) (h2 : si ≤ 256) :
    Calls Try.prog 4 #[pv (n : Int) (t : Int) (k : Int) (e : Int) (r : Int), .int .i64 si, .int .i64 ti, .slice A M c, .slice A3 R c3] w fun e w' => e = .returned (.bool true) ∧ Below w.heap.size w w' := by
  have hpb1 := Pbx.new w 23 n t k e r
  have hb1 : Below w.heap.size w (w.alloc (.cells #[.int .i64 (n : Int), .int .i64 (t : Int), .int .i64 (k : Int), .int .i64 (e : Int), .int .i64 (r : Int)] 23)) := (Below.refl _ w).alloc (Nat.le_refl _) _
  have HG := Lib.hid (ogood_any n t k e r A M c (w.alloc (.cells #[.int .i64 (n : Int), .int .i64 (t : Int), .int .i64 (k : Int), .int .i64 (e : Int), .int .i64 (r : Int)] 23)))
  rw [hgd] at HG
  obtain ⟨k3, hk3⟩ : ∃ k3, k3 = 3 * k := ⟨_, rfl⟩
  have f4 : (3 : Int) * (k : Int) = (k3 : Int) := by omega
  rw [f4] at h1
  clear hgd hk3
  go_enter Try.func4, Try.ntmps4
  go_wp2_with fail
  refine HG.out.mono ?_
  rintro _ w2 ⟨rfl, hb2⟩
  have HB2 := Lib.hid (hb1.trans (hb2.mono hb1.size))
  have y2 := (hpb1.below hb2 hpb1.lt).c2
  clear hb1 hb2 HG hpb1
  go_wp2_with fail
  refine (answers_any w2).mono ?_
  rintro _ w3 ⟨rfl, hb3⟩
  go_wp2
  go_ret
  exact ⟨rfl, HB2.out.trans (hb3.mono HB2.out.size)⟩
set_option maxRecDepth 100000 in
set_option maxHeartbeats 2000000 in
theorem side_out (n t k e r : Nat) (hg0 : goodB n t k e r = true) (si ti : Int) (hsw : (Lit.int .i64 si).wf = true) (A : Option Addr) (c M : Nat) (A3 : Option Addr) (c3 R : Nat) (w : World) (hkb : k ≤ 30) (hgd : (goodB n t k e r && decide (M ≤ 9) && decide ((n : Int) ≤ 30)) = true) (hs : si < 0 ∨ 256 < si) :
    Calls Try.prog 4 #[pv (n : Int) (t : Int) (k : Int) (e : Int) (r : Int), .int .i64 si, .int .i64 ti, .slice A M c, .slice A3 R c3] w fun e w' => e = .returned (.bool true) ∧ Below w.heap.size w w' := by
  have hpb1 := Pbx.new w 23 n t k e r
  have hb1 : Below w.heap.size w (w.alloc (.cells #[.int .i64 (n : Int), .int .i64 (t : Int), .int .i64 (k : Int), .int .i64 (e : Int), .int .i64 (r : Int)] 23)) := (Below.refl _ w).alloc (Nat.le_refl _) _
  have HG := Lib.hid (ogood_any n t k e r A M c (w.alloc (.cells #[.int .i64 (n : Int), .int .i64 (t : Int), .int .i64 (k : Int), .int .i64 (e : Int), .int .i64 (r : Int)] 23)))
  rw [hgd] at HG
  obtain ⟨k3, hk3⟩ : ∃ k3, k3 = 3 * k := ⟨_, rfl⟩
  have f4 : (3 : Int) * (k : Int) = (k3 : Int) := by omega
  have HHS := Lib.hid hs
  rcases hs with hs | hs
  · have f5 : ¬ ((k3 : Int) < si) := by omega
    clear hgd hk3
    go_enter Try.func4, Try.ntmps4
    go_wp2_with fail
    refine HG.out.mono ?_
    rintro _ w2 ⟨rfl, hb2⟩
    have HB2 := Lib.hid (hb1.trans (hb2.mono hb1.size))
    have HP2 := Lib.hid (hpb1.below hb2 hpb1.lt)
    obtain ⟨y0, y1, y2, y3, y4⟩ := HP2.out
    clear hb1 hb2 HG hpb1
    go_wp2_with fail
    refine (new_any w2).mono ?_
    rintro _ w3 ⟨rfl, hF3, hb3⟩
    have HP3 := Lib.hid (HP2.out.below hb3 HP2.out.lt)
    have HB3 := Lib.hid (HB2.out.trans (hb3.mono HB2.out.size))
    clear y0 y1 y2 y3 y4 hb3 hF3
    obtain ⟨y0, y1, y2, y3, y4⟩ := HP3.out
    go_wp2_with fail
    refine (oopen_bad n t k e r R si hg0 hsw HHS.out w2.heap.size A A3 c c3 M w3).mono ?_
    rintro en w4 ⟨⟨Ab, cb, Aw, cw, rfl⟩, hb4⟩
    have HB4 := Lib.hid (HB3.out.trans (hb4.mono HB3.out.size))
    clear y0 y1 y2 y3 y4 hb4
    go_wp2_with fail
    refine (answers_any w4).mono ?_
    rintro _ w5 ⟨rfl, hb5⟩
    go_wp2
    go_ret
    exact ⟨rfl, HB4.out.trans (hb5.mono HB4.out.size)⟩
  · have f5 : (k3 : Int) < si := by omega
    have f8 : ¬ (si ≤ 256) := by omega
    have f9 : ¬ (si < 0) := by omega
    clear hgd hk3
    go_enter Try.func4, Try.ntmps4
    go_wp2_with fail
    refine HG.out.mono ?_
    rintro _ w2 ⟨rfl, hb2⟩
    have HB2 := Lib.hid (hb1.trans (hb2.mono hb1.size))
    have HP2 := Lib.hid (hpb1.below hb2 hpb1.lt)
    obtain ⟨y0, y1, y2, y3, y4⟩ := HP2.out
    clear hb1 hb2 HG hpb1
    go_wp2_with fail
    refine (new_any w2).mono ?_
    rintro _ w3 ⟨rfl, hF3, hb3⟩
    have HP3 := Lib.hid (HP2.out.below hb3 HP2.out.lt)
    have HB3 := Lib.hid (HB2.out.trans (hb3.mono HB2.out.size))
    clear y0 y1 y2 y3 y4 hb3 hF3
    obtain ⟨y0, y1, y2, y3, y4⟩ := HP3.out
    go_wp2_with fail
    refine (oopen_bad n t k e r R si hg0 hsw HHS.out w2.heap.size A A3 c c3 M w3).mono ?_
    rintro en w4 ⟨⟨Ab, cb, Aw, cw, rfl⟩, hb4⟩
    have HB4 := Lib.hid (HB3.out.trans (hb4.mono HB3.out.size))
    clear y0 y1 y2 y3 y4 hb4
    go_wp2_with fail
    refine (answers_any w4).mono ?_
    rintro _ w5 ⟨rfl, hb5⟩
    go_wp2
    go_ret
    exact ⟨rfl, HB4.out.trans (hb5.mono HB4.out.size)⟩
theorem walk (a0 T0 K0 E0 R0 : Int) (a1 a2 : Int) (A3 : Option Addr) (c3 : Nat) (z3 : List Int) (A4 : Option Addr) (c4 R4 : Nat) (P4 : Nat → Option Addr) (n4 : Nat → Nat) (l4 : Nat → List Nat) (w : World) (_w0 : (Lit.int .i64 a0).wf = true ∧ (Lit.int .i64 T0).wf = true ∧ (Lit.int .i64 K0).wf = true ∧ (Lit.int .i64 E0).wf = true ∧ (Lit.int .i64 R0).wf = true) (w1 : (Lit.int .i64 a1).wf = true) (w2 : (Lit.int .i64 a2).wf = true) (w3 : InZ w w.heap.size A3 c3 z3) (_s3 : c3 ≤ 17592186043904) (w4 : MIn w w.heap.size A4 c4 R4 P4 n4 l4) (s4 : c4 ≤ 5864062014634) (_b4 : ∀ i, BB (l4 i)) :
    Calls Try.prog 4 #[pv a0 T0 K0 E0 R0, .int .i64 a1, .int .i64 a2, .slice A3 z3.length c3, .slice A4 R4 c4] w fun e w' => e = .returned (.bool true) ∧ Below w.heap.size w w' := by
  have hc4 := w4.cap
  cases hbad : (goodB a0 T0 K0 E0 R0 && decide (z3.length ≤ 9) && decide (a0 ≤ 30)) with
  | false => exact side_bad a0 T0 K0 E0 R0 a1 a2 A3 c3 z3.length A4 c4 R4 w hbad
  | true =>
    have hgd := hbad
    simp only [Bool.and_eq_true, decide_eq_true_eq] at hbad
    obtain ⟨⟨hg, hM⟩, ha⟩ := hbad
    obtain ⟨n, t, k, e, r, rfl, rfl, rfl, rfl, rfl, h1, h2, h3, h4, h5, h6⟩ := goodB_nat hg
    by_cases hs : a1 < 0 ∨ 256 < a1
    · exact side_out n t k e r hg a1 a2 w1 A3 c3 z3.length A4 c4 R4 w (by omega) hgd hs
    · by_cases hb : 3 * (k : Int) < a1
      · exact side_big n t k e r a1 a2 A3 c3 z3.length A4 c4 R4 w (by omega) hgd hb (by omega)
      · obtain ⟨size, rfl⟩ : ∃ size : Nat, a1 = (size : Int) := ⟨a1.toNat, by omega⟩
        by_cases hF : ∃ P, Fnd n t k e (Sp.cnt size k) z3 R4 l4 P
        · obtain ⟨P, hF⟩ := hF
          by_cases ht0 : a2 < 0
          · exact side_neg n t k e r hg h1 h2 h5 h6 (by omega) size _ rfl (by omega) a2 w2 ht0 A3 c3 _ z3 A4 c4 R4 P4 n4 l4 w rfl hM w3 w4 (by omega) P hF
          · by_cases htn : (n : Int) ≤ a2
            · exact side_far n t k e r hg h1 h2 h5 h6 (by omega) size _ rfl (by omega) a2 w2 htn A3 c3 _ z3 A4 c4 R4 P4 n4 l4 w rfl hM w3 w4 (by omega) P hF
            · obtain ⟨g, rfl⟩ : ∃ g : Nat, a2 = (g : Int) := ⟨a2.toNat, by omega⟩
              exact side_fine n t k e r hg h1 h2 h5 h6 (by omega) size _ rfl (by omega) g (by omega) A3 c3 _ z3 A4 c4 R4 P4 n4 l4 w rfl hM w3 w4 (by omega) P hF
        · exact side_no n t k e r hg h1 h2 h5 h6 (by omega) size _ rfl (by omega) a2 w2 A3 c3 _ z3 A4 c4 R4 P4 n4 l4 w rfl hM w3 w4 (by omega) hF

set_option maxRecDepth 100000 in
theorem lifted (os : Os) (started : os.Started) (H : Type) (enc : TypeId × Value → H) :
    ReturnsInHanded {} Try.checked os 4 .any (Rows.openOpensSpec.pre6 enc Try.prog Try.f4 Rows.openOpensRow.domain false) (Rows.openOpensSpec.post enc Try.prog Try.f4 false true false false) := by
  refine returnsInHanded_of_change_sized (C := Try.checked) own started (by kernel_rfl) Try.func4
    (ChangeSpec.witness6 (enc := enc) (C := Try.checked) false ⟨#[], #[.agg #[.int .i64 0, .int .i64 0, .int .i64 0, .int .i64 0, .int .i64 0], .int .i64 0, .int .i64 0, .slice none 0 0, .slice none 0 0], []⟩ 8 (by kernel_rfl) (by kernel_rfl) (by kernel_rfl) (by kernel_rfl)) ?_
  intro W base args ds gs before hval0 hW _hcnd hsz0 _
  have hval : ∀ (j : Nat) t v, Try.f4.params[j]? = some t → args[j]? = some v → Value.okWide Try.prog W .any base t v := hval0
  have hW' := hW
  obtain ⟨p, q, hA0, hV, rfl, _hfz, _hnd⟩ := hW
  have hA : DataW.TrodAll enc Try.prog W 0 (fun _ => true) true Try.f4.params.toList args.toList ds p := hA0
  have hsz : (DataW.weightsEach Try.prog (Try.f4.params.toList ++ Rows.openOpensSpec.plain.varTypes Try.prog) (ds ++ gs)).all (· ≤ reachBytes) = true := hsz0
  rw [Try.params4] at hA hval hsz
  obtain ⟨v0, vs0, d0, ds0, p0, q0, hargs, rfl, rfl, h0, r0⟩ := trodAll_cons hA
  obtain ⟨v1, vs1, d1, ds1, p1, q1, rfl, rfl, rfl, h1, r1⟩ := trodAll_cons r0
  obtain ⟨v2, vs2, d2, ds2, p2, q2, rfl, rfl, rfl, h2, r2⟩ := trodAll_cons r1
  obtain ⟨v3, vs3, d3, ds3, p3, q3, rfl, rfl, rfl, h3, r3⟩ := trodAll_cons r2
  obtain ⟨v4, vs4, d4, ds4, p4, q4, rfl, rfl, rfl, h4, r4⟩ := trodAll_cons r3
  obtain ⟨rfl, rfl, rfl⟩ := trodAll_nil r4
  obtain rfl : args = #[v0, v1, v2, v3, v4] := by cases args; simp_all
  obtain ⟨rfl, rfl⟩ := trodVars_none hV
  obtain ⟨a0, T0, K0, E0, R0, rfl, rfl, rfl, w0⟩ := open_five Try.underlying23 (by kernel_rfl) (by kernel_rfl) rfl rfl rfl rfl rfl Try.underlying3 (hval 0 23 v0 rfl rfl) h0
  obtain ⟨a1, rfl, rfl, rfl, w1⟩ := open_int Try.underlying3 (hval 1 3 v1 rfl rfl) h1
  obtain ⟨a2, rfl, rfl, rfl, w2⟩ := open_int Try.underlying3 (hval 2 3 v2 rfl rfl) h2
  have k3 := h3
  have lt3 : ∀ x ∈ p3, x.block < W.heap.size := by obtain ⟨m, hm⟩ := k3; exact DataW.trod_lt m _ _ _ hm
  obtain ⟨A3, c3, z3, rfl, w3, sz3⟩ := open_intz Try.underlying24 Try.underlying3 (by kernel_rfl) (hval 3 24 v3 rfl rfl) h3
  have s3 := sized_ints hsz (j := 3) (t := 24) (e := 3) rfl rfl Try.underlying24 (by kernel_rfl) sz3
  have k4 := h4
  have lt4 : ∀ x ∈ p4, x.block < W.heap.size := by obtain ⟨m, hm⟩ := k4; exact DataW.trod_lt m _ _ _ hm
  obtain ⟨A4, c4, R4, P4, n4, l4, rfl, w4, b4, sz4, sh4⟩ := open_rows Try.underlying25 Try.underlying36 Try.underlying5 (by kernel_rfl) (by kernel_rfl) (hval 4 25 v4 rfl rfl) h4
  have s4 := sized_rows hsz (j := 4) (t := 25) (e := 36) rfl rfl Try.underlying25 (by kernel_rfl) sz4
  clear hA0 hval0 hsz0 hsz
  refine (walk a0 T0 K0 E0 R0 a1 a2 A3 c3 z3 A4 c4 R4 P4 n4 l4 W w0 w1 w2 w3 s3 w4 s4 b4).mono fun e W' ⟨he, bel⟩ => ?_
  subst he
  exact ⟨_, rfl, _, _, _, [], _, [], hW', trodAll_mk1 (shut_bool Try.underlying4 _), (trodAll_cons_mk (shut_five Try.underlying23 (by kernel_rfl) (by kernel_rfl) rfl rfl rfl rfl rfl Try.underlying3 w0) (trodAll_cons_mk (shut_int Try.underlying3 w1) (trodAll_cons_mk (shut_int Try.underlying3 w2) (trodAll_cons_mk (Below.trod laidOut (by kernel_rfl) (of_decide_eq_true (by kernel_rfl)) k3 bel lt3) (trodAll_cons_mk (Below.trod laidOut (by kernel_rfl) (of_decide_eq_true (by kernel_rfl)) k4 bel lt4) trodAll_mk0))))), rfl, bel.frame _, fun h => by cases h⟩

theorem over : Rows.openOpensRow.holds Try.pinned (OpenSpec.ofChange Rows.openOpensSpec) :=
  OpenClaim.holds_of_wide 4 Try.f4 rfl rfl rfl rfl rfl rfl rfl ⟨rfl, rfl, rfl, rfl, rfl⟩ rfl rfl rfl rfl rfl (by kernel_rfl) Try.func4 (by kernel_rfl)
    (of_decide_eq_true (by kernel_rfl)) (by unfold Func.isWrapper; first | (rw [if_pos (by decide +kernel)]; kernel_rfl) | (rw [if_neg (by decide +kernel)]; exact ⟨rfl, rfl⟩))
    (fun os started H enc _ => lifted os started H enc)

end Go.Proofs.Ytgikgnhpplmljaa.openOpens
namespace Go.Proofs.Ytgikgnhpplmljaa
/-- The statement. -/
theorem openOpens_holds : Rows.OpenOpensSaid := openOpens.over
#print axioms openOpens_holds
end Go.Proofs.Ytgikgnhpplmljaa

