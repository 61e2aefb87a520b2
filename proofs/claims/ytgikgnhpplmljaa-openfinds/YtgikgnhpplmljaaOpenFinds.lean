/- For every input OpenFinds returns true, and every argument reads behind the call as it did before: no condition. -/
import Derived.ProofKit
import Derived.OpenShut
import Derived.SizedLaws
import Derived.ChangeOld
import Derived.Carry
import Derived.Test.YtgikgnhpplmljaaRows
import Derived.Test.YtgikgnhpplmljaaJ1
import Derived.Test.YtgikgnhpplmljaaJ2
import Derived.Test.YtgikgnhpplmljaaJ3
import Derived.Test.YtgikgnhpplmljaaJ4
import Derived.Test.YtgikgnhpplmljaaJ5
import Derived.Test.YtgikgnhpplmljaaJ11
import Derived.Test.YtgikgnhpplmljaaJ13
import Derived.Test.YtgikgnhpplmljaaJ16
namespace Go.Proofs.Ytgikgnhpplmljaa.openFinds
open Go.ChangeShapes Go.WideShapes Go.ChangeAt Go.RowKit Go.Shelf Gw Pol

theorem own : ownKnob Try.prog.godebug = none := by kernel_rfl
theorem laidOut : laidOutB Try.prog = true := by kernel_rfl
set_option maxRecDepth 100000 in
set_option maxHeartbeats 4000000 in
theorem side_yes (n t k e r : Nat) (hg0 : goodB n t k e r = true) (ht : 1 ≤ t) (hk : 1 ≤ k) (hm : t + k + 2 * e ≤ n) (_hnk : n + k ≤ 255) (hn30 : n ≤ 30) (q1 C : Nat) (hq1 : q1 < 256) (hC : C = q1 % 4) (A : Option Addr) (c M : Nat) (z : List Int) (A3 : Option Addr) (c3 R : Nat) (Q : Nat → Option Addr) (q : Nat → Nat) (l : Nat → List Nat) (w : World) (hM : M = z.length) (hM9 : M ≤ 9) (wi : InZ w w.heap.size A c z) (wm : MIn w w.heap.size A3 c3 R Q q l) (hRb : R ≤ 5864062014634) (P : Nat → List Nat) (hF : Fnd n t k e C z R l P) :
    Calls Try.prog 3 #[pv (n : Int) (t : Int) (k : Int) (e : Int) (r : Int), .int .u8 (q1 : Int), .slice A M c, .slice A3 R c3] w fun e w' => e = .returned (.bool true) ∧ Below w.heap.size w w' := by
  have hCb : C ≤ 4096 := by omega
  have HMZ := Lib.hid hM
  have HF := Lib.hid hF
  obtain ⟨nw, hnw⟩ : ∃ nw, nw = (wrongL n z R l P C).length := ⟨_, rfl⟩
  have HNW := Lib.hid hnw
  have hpb1 := Pbx.new w 23 n t k e r
  have hb1 : Below w.heap.size w (w.alloc (.cells #[.int .i64 (n : Int), .int .i64 (t : Int), .int .i64 (k : Int), .int .i64 (e : Int), .int .i64 (r : Int)] 23)) := (Below.refl _ w).alloc (Nat.le_refl _) _
  have HG := Lib.hid (ogood_any n t k e r A M c (w.alloc (.cells #[.int .i64 (n : Int), .int .i64 (t : Int), .int .i64 (k : Int), .int .i64 (e : Int), .int .i64 (r : Int)] 23)))
  rw [hg0, decide_eq_true hM9, decide_eq_true (show (n : Int) ≤ 30 by omega)] at HG
  have f4 : (q1 : Int) % 4 = (C : Int) := by rw [hC]; rfl
  have f5 : ((q1 : Int)).tmod 4 = (C : Int) := by rw [Int.tmod_eq_emod_of_nonneg (by omega)]; exact f4
  have f6 : IntKind.u8.wrap (C : Int) = (C : Int) := by rw [IntKind.wrap_u8]; omega
  clear hM hF hC hnw
  go_enter Try.func3, Try.ntmps3
  go_wp2_with fail
  refine HG.out.mono ?_
  rintro _ w2 ⟨rfl, hb2⟩
  have HPB := Lib.hid (hpb1.below hb2 hpb1.lt)
  have HPL := Lib.hid HPB.out.lt
  have HB2 := Lib.hid (hb1.trans (hb2.mono hb1.size))
  have HIZ := Lib.hid ((wi.below HB2.out).more HB2.out.size)
  have HMI := Lib.hid ((wm.below HB2.out).more HB2.out.size)
  clear hpb1 hb1 hb2 HG wi wm
  go_wp2
  rename_i K0 hK0
  refine Gt.regionA [FIs, Gt.Is (pv (n : Int) (t : Int) (k : Int) (e : Int) (r : Int)), Gt.Is (.int .i64 (C : Int)), Gt.Is (.slice A M c), Gt.Is (.slice A3 R c3), T3Is C nw P (wrongL n z R l P C), T3Is C nw P (wrongL n z R l P C), MIs C P, JIs nw (wrongL n z R l P C), Gt.Is (.bool true), MIs C P, JIs nw (wrongL n z R l P C), Gt.Is (.bool true)] 59
    [⟨[], [], none⟩, ⟨[], [4], none⟩, ⟨[], [9], none⟩, ⟨[], [2], none⟩, ⟨[], [3], none⟩, ⟨[(0, 25), (1, 26), (2, 27), (3, 28), (4, 29)], [], none⟩, ⟨[(5, 30)], [], none⟩, ⟨[(6, 24)], [], none⟩, ⟨[(6, 24)], [], none⟩, ⟨[(6, 24)], [], none⟩, ⟨[(7, 31)], [], none⟩, ⟨[(8, 32)], [], none⟩, ⟨[(9, 33)], [], none⟩]
    [(0, 25), (1, 26), (2, 27), (3, 28), (4, 29), (5, 30), (6, 24), (7, 31), (8, 32), (9, 33), (10, 10), (11, 11), (12, 12)] (by kernel_rfl) (by kernel_rfl) (by kernel_rfl) (by kernel_rfl) ?_ ?_ ?_
  · simp only [Gt.Monos]
    repeat' apply And.intro
    all_goals (first | exact trivial | exact Gt.Is.mono _ | exact FIs.mono | exact T3Is.mono _ _ _ _ | exact Z3Is.mono | exact MIs.mono _ _ | exact JIs.mono _ _ | exact EIs.mono)
  · simp only [Gt.Obs]
    repeat' apply And.intro
    all_goals try exact trivial
    all_goals (
      intro a w5 hg
      have hg' : Below w2.heap.size w2 w5 := hg
      simp only [Gt.Pre, Gt.Kept, Gt.Guarded, Gt.tys, List.getD_cons_zero, List.getD_cons_succ, Gt.Is, Nat.zero_add, Nat.reduceAdd]
      intros
      try (refine ⟨fun _ => ?_, fun hne => absurd (by assumption) hne⟩))
    all_goals (first
      | exact Gt.ok_move rfl (by assumption)
      | exact Gt.ok_assign rfl (by assumption)
      | exact Gt.ok_pick rfl (by assumption) (by rw [if_pos rfl]; assumption)
      | (refine Gt.ok_call (f := 11) rfl #[] (by kernel_rfl) (by simp) ((new_any _).mono ?_)
         rintro e w6 ⟨rfl, hF6, hb6⟩
         exact ⟨_, rfl, hb6, _, rfl, hF6⟩)
      | (exact Gt.ok_load rfl (by assumption) (HPB.out.below hg' HPL.out).load rfl)
      | (obtain ⟨b6, hv6, hF6⟩ : FIs (a.eval (.tmp 25)) w5 := by assumption
         refine Gt.ok_call (f := 10) rfl #[.pointer (some ⟨b6, 0, none⟩), pv (n : Int) (t : Int) (k : Int) (e : Int) (r : Int), .int .i64 (C : Int), .slice A M c, .slice A3 R c3] (by kernel_rfl) (by simp [*] <;> rfl) ((ofind_any n t k e r R C hg0 b6 A A3 c c3 M z HMZ.out Q q l w5 hF6 ((HIZ.out.below hg').more hg'.size) ((HMI.out.below hg').more hg'.size) hCb (by omega) hRb).mono ?_)
         rintro en w6 h6
         obtain ⟨v, h7, h8, h9⟩ := fd_yes h6 HF.out HNW.out
         exact ⟨v, h7, h9, h8⟩)
      | (obtain ⟨A6, c6, pa6, cp6, A7, c7, hv6, hM6, hJ6⟩ : T3Is C nw P (wrongL n z R l P C) (a.eval (.tmp 24)) w5 := by assumption
         refine Gt.ok_run (v := .slice A6 C c6) ?_ ⟨A6, c6, pa6, cp6, rfl, hM6⟩
         simp only [execOp, hv6]
         go_simp
         done)
      | (obtain ⟨A6, c6, pa6, cp6, A7, c7, hv6, hM6, hJ6⟩ : T3Is C nw P (wrongL n z R l P C) (a.eval (.tmp 24)) w5 := by assumption
         refine Gt.ok_run (v := .slice A7 nw c7) ?_ ⟨A7, c7, rfl, hJ6⟩
         simp only [execOp, hv6]
         go_simp
         done)
      | (obtain ⟨A6, c6, pa6, cp6, A7, c7, hv6, hM6, hJ6⟩ : T3Is C nw P (wrongL n z R l P C) (a.eval (.tmp 24)) w5 := by assumption
         refine Gt.ok_run (v := .bool true) ?_ rfl
         simp only [execOp, hv6]
         go_simp
         done))
  · intro a w5 hg
    have hg' : Below w2.heap.size w2 w5 := hg
    simp only [Gt.Pre, Gt.tys, List.getD_cons_zero, List.getD_cons_succ, Gt.Is]
    intro h0 h1 h2 h3 h4 h5 h6 h7 h8 h9 h10 h11 h12
    show K0 _ _
    refine hK0 _ _ ?_
    obtain ⟨Af, cf, paf, cpf, h10, hMf⟩ := h10
    obtain ⟨Aw, cw, h11, hJw⟩ := h11
    obtain ⟨_, h0, _⟩ := h0
    obtain ⟨_, _, _, _, _, _, h5, _⟩ := h5
    obtain ⟨_, _, _, _, _, _, h6, _⟩ := h6
    obtain ⟨_, _, _, _, h7, _⟩ := h7
    obtain ⟨_, _, h8, _⟩ := h8
    simp only [Gt.puts, List.foldl_cons, List.foldl_nil, h0, h1, h2, h3, h4, h5, h6, h7, h8, h9, h10, h11, h12]
    simp only [Act.put, List.setIfInBounds_toArray, List.set_cons_zero, List.set_cons_succ]
    have HB5 := Lib.hid (HB2.out.trans (hg'.mono HB2.out.size))
    have HP5 := Lib.hid (HPB.out.below hg' HPL.out)
    have HIZ5 := Lib.hid ((HIZ.out.below hg').more hg'.size)
    have HMI5 := Lib.hid ((HMI.out.below hg').more hg'.size)
    have HMF := Lib.hid hMf
    have HJW := Lib.hid hJw
    clear hMf hJw
    clear h0 h1 h2 h3 h4 h5 h6 h7 h8 h9 h10 h11 h12
    clear hg' hg HPB HPL
    obtain ⟨y0, y1, y2, y3, y4⟩ := HP5.out
    go_wp2_with fail
    refine (rfind_any n t k e R C r (by omega) ht hk (by omega) (by omega) A A3 c c3 M z HMZ.out Q q l w5 HIZ5.out HMI5.out (by omega) (by omega) hCb).mono ?_
    rintro en w7 h7
    obtain ⟨v, rfl, h8, h9⟩ := fd_yes h7 HF.out HNW.out
    obtain ⟨Ag, cg, pag, cpg, Av, cv, rfl, hMg, hJv⟩ := h8
    have HB7 := Lib.hid (HB5.out.trans (h9.mono HB5.out.size))
    have HMF7 := Lib.hid ((HMF.out.below h9).more h9.size)
    have HJW7 := Lib.hid (HJW.out.below h9)
    have HMG7 := Lib.hid hMg
    have HJV7 := Lib.hid hJv
    clear hMg hJv
    clear y0 y1 y2 y3 y4 h9 h7
    go_wp2_with fail
    refine (answers_any w7).mono ?_
    rintro _ w8 ⟨rfl, hb8⟩
    have HB8 := Lib.hid (HB7.out.trans (hb8.mono HB7.out.size))
    have HMF8 := Lib.hid ((HMF7.out.below hb8).more hb8.size)
    have HJW8 := Lib.hid (HJW7.out.below hb8)
    have HMG8 := Lib.hid ((HMG7.out.below hb8).more hb8.size)
    have HJV8 := Lib.hid (HJV7.out.below hb8)
    clear hb8
    go_wp2_with fail
    refine (osame Af Ag cf cg C paf pag cpf cpg P P w8 HMF8.out HMG8.out (fun _ _ => rfl) (by omega)).mono ?_
    rintro _ w9 ⟨rfl, hb9⟩
    have HB9 := Lib.hid (HB8.out.trans (hb9.mono HB8.out.size))
    have HS := Lib.hid (sameInts_any Aw Av cw cv (wrongL n z R l P C) (wrongL n z R l P C) w9 (HJW8.out.below hb9) (HJV8.out.below hb9) (by have := wrongL_len n z R l P C; omega))
    rw [← HNW.out, decide_eq_true (rfl : (wrongL n z R l P C) = (wrongL n z R l P C))] at HS
    clear hb9
    go_wp2_with fail
    refine HS.out.mono ?_
    rintro _ w10 ⟨rfl, d, rfl⟩
    go_wp2
    go_ret
    exact ⟨rfl, Gw.Below.drewN HB9.out d⟩
set_option maxRecDepth 100000 in
set_option maxHeartbeats 4000000 in
theorem side_no (n t k e r : Nat) (hg0 : goodB n t k e r = true) (ht : 1 ≤ t) (hk : 1 ≤ k) (hm : t + k + 2 * e ≤ n) (_hnk : n + k ≤ 255) (hn30 : n ≤ 30) (q1 C : Nat) (hq1 : q1 < 256) (hC : C = q1 % 4) (A : Option Addr) (c M : Nat) (z : List Int) (A3 : Option Addr) (c3 R : Nat) (Q : Nat → Option Addr) (q : Nat → Nat) (l : Nat → List Nat) (w : World) (hM : M = z.length) (hM9 : M ≤ 9) (wi : InZ w w.heap.size A c z) (wm : MIn w w.heap.size A3 c3 R Q q l) (hRb : R ≤ 5864062014634) (hF : ¬ ∃ P, Fnd n t k e C z R l P) :
    Calls Try.prog 3 #[pv (n : Int) (t : Int) (k : Int) (e : Int) (r : Int), .int .u8 (q1 : Int), .slice A M c, .slice A3 R c3] w fun e w' => e = .returned (.bool true) ∧ Below w.heap.size w w' := by
  have hCb : C ≤ 4096 := by omega
  have HMZ := Lib.hid hM
  have HF := Lib.hid hF
  have hpb1 := Pbx.new w 23 n t k e r
  have hb1 : Below w.heap.size w (w.alloc (.cells #[.int .i64 (n : Int), .int .i64 (t : Int), .int .i64 (k : Int), .int .i64 (e : Int), .int .i64 (r : Int)] 23)) := (Below.refl _ w).alloc (Nat.le_refl _) _
  have HG := Lib.hid (ogood_any n t k e r A M c (w.alloc (.cells #[.int .i64 (n : Int), .int .i64 (t : Int), .int .i64 (k : Int), .int .i64 (e : Int), .int .i64 (r : Int)] 23)))
  rw [hg0, decide_eq_true hM9, decide_eq_true (show (n : Int) ≤ 30 by omega)] at HG
  have f4 : (q1 : Int) % 4 = (C : Int) := by rw [hC]; rfl
  have f5 : ((q1 : Int)).tmod 4 = (C : Int) := by rw [Int.tmod_eq_emod_of_nonneg (by omega)]; exact f4
  have f6 : IntKind.u8.wrap (C : Int) = (C : Int) := by rw [IntKind.wrap_u8]; omega
  clear hM hF hC
  go_enter Try.func3, Try.ntmps3
  go_wp2_with fail
  refine HG.out.mono ?_
  rintro _ w2 ⟨rfl, hb2⟩
  have HPB := Lib.hid (hpb1.below hb2 hpb1.lt)
  have HPL := Lib.hid HPB.out.lt
  have HB2 := Lib.hid (hb1.trans (hb2.mono hb1.size))
  have HIZ := Lib.hid ((wi.below HB2.out).more HB2.out.size)
  have HMI := Lib.hid ((wm.below HB2.out).more HB2.out.size)
  clear hpb1 hb1 hb2 HG wi wm
  go_wp2
  rename_i K0 hK0
  refine Gt.regionA [FIs, Gt.Is (pv (n : Int) (t : Int) (k : Int) (e : Int) (r : Int)), Gt.Is (.int .i64 (C : Int)), Gt.Is (.slice A M c), Gt.Is (.slice A3 R c3), Z3Is, Z3Is, EIs, EIs, Gt.Is (.bool false), EIs, EIs, Gt.Is (.bool false)] 59
    [⟨[], [], none⟩, ⟨[], [4], none⟩, ⟨[], [9], none⟩, ⟨[], [2], none⟩, ⟨[], [3], none⟩, ⟨[(0, 25), (1, 26), (2, 27), (3, 28), (4, 29)], [], none⟩, ⟨[(5, 30)], [], none⟩, ⟨[(6, 24)], [], none⟩, ⟨[(6, 24)], [], none⟩, ⟨[(6, 24)], [], none⟩, ⟨[(7, 31)], [], none⟩, ⟨[(8, 32)], [], none⟩, ⟨[(9, 33)], [], none⟩]
    [(0, 25), (1, 26), (2, 27), (3, 28), (4, 29), (5, 30), (6, 24), (7, 31), (8, 32), (9, 33), (10, 10), (11, 11), (12, 12)] (by kernel_rfl) (by kernel_rfl) (by kernel_rfl) (by kernel_rfl) ?_ ?_ ?_
  · simp only [Gt.Monos]
    repeat' apply And.intro
    all_goals (first | exact trivial | exact Gt.Is.mono _ | exact FIs.mono | exact T3Is.mono _ _ _ _ | exact Z3Is.mono | exact MIs.mono _ _ | exact JIs.mono _ _ | exact EIs.mono)
  · simp only [Gt.Obs]
    repeat' apply And.intro
    all_goals try exact trivial
    all_goals (
      intro a w5 hg
      have hg' : Below w2.heap.size w2 w5 := hg
      simp only [Gt.Pre, Gt.Kept, Gt.Guarded, Gt.tys, List.getD_cons_zero, List.getD_cons_succ, Gt.Is, Nat.zero_add, Nat.reduceAdd]
      intros
      try (refine ⟨fun _ => ?_, fun hne => absurd (by assumption) hne⟩))
    all_goals (first
      | exact Gt.ok_move rfl (by assumption)
      | exact Gt.ok_assign rfl (by assumption)
      | exact Gt.ok_pick rfl (by assumption) (by rw [if_pos rfl]; assumption)
      | (refine Gt.ok_call (f := 11) rfl #[] (by kernel_rfl) (by simp) ((new_any _).mono ?_)
         rintro e w6 ⟨rfl, hF6, hb6⟩
         exact ⟨_, rfl, hb6, _, rfl, hF6⟩)
      | (exact Gt.ok_load rfl (by assumption) (HPB.out.below hg' HPL.out).load rfl)
      | (obtain ⟨b6, hv6, hF6⟩ : FIs (a.eval (.tmp 25)) w5 := by assumption
         refine Gt.ok_call (f := 10) rfl #[.pointer (some ⟨b6, 0, none⟩), pv (n : Int) (t : Int) (k : Int) (e : Int) (r : Int), .int .i64 (C : Int), .slice A M c, .slice A3 R c3] (by kernel_rfl) (by simp [*] <;> rfl) ((ofind_any n t k e r R C hg0 b6 A A3 c c3 M z HMZ.out Q q l w5 hF6 ((HIZ.out.below hg').more hg'.size) ((HMI.out.below hg').more hg'.size) hCb (by omega) hRb).mono ?_)
         rintro en w6 h6
         obtain ⟨v, h7, h8, h9⟩ := fd_no h6 HF.out
         exact ⟨v, h7, h9, h8⟩)
      | (obtain ⟨A6, c6, A7, c7, hv6⟩ : Z3Is (a.eval (.tmp 24)) w5 := by assumption
         refine Gt.ok_run (v := .slice A6 0 c6) ?_ ⟨A6, c6, rfl⟩
         simp only [execOp, hv6]
         go_simp
         done)
      | (obtain ⟨A6, c6, A7, c7, hv6⟩ : Z3Is (a.eval (.tmp 24)) w5 := by assumption
         refine Gt.ok_run (v := .slice A7 0 c7) ?_ ⟨A7, c7, rfl⟩
         simp only [execOp, hv6]
         go_simp
         done)
      | (obtain ⟨A6, c6, A7, c7, hv6⟩ : Z3Is (a.eval (.tmp 24)) w5 := by assumption
         refine Gt.ok_run (v := .bool false) ?_ rfl
         simp only [execOp, hv6]
         go_simp
         done))
  · intro a w5 hg
    have hg' : Below w2.heap.size w2 w5 := hg
    simp only [Gt.Pre, Gt.tys, List.getD_cons_zero, List.getD_cons_succ, Gt.Is]
    intro h0 h1 h2 h3 h4 h5 h6 h7 h8 h9 h10 h11 h12
    show K0 _ _
    refine hK0 _ _ ?_
    obtain ⟨Af, cf, h10⟩ := h10
    obtain ⟨Aw, cw, h11⟩ := h11
    obtain ⟨_, h0, _⟩ := h0
    obtain ⟨_, _, _, _, h5⟩ := h5
    obtain ⟨_, _, _, _, h6⟩ := h6
    obtain ⟨_, _, h7⟩ := h7
    obtain ⟨_, _, h8⟩ := h8
    simp only [Gt.puts, List.foldl_cons, List.foldl_nil, h0, h1, h2, h3, h4, h5, h6, h7, h8, h9, h10, h11, h12]
    simp only [Act.put, List.setIfInBounds_toArray, List.set_cons_zero, List.set_cons_succ]
    have HB5 := Lib.hid (HB2.out.trans (hg'.mono HB2.out.size))
    have HP5 := Lib.hid (HPB.out.below hg' HPL.out)
    have HIZ5 := Lib.hid ((HIZ.out.below hg').more hg'.size)
    have HMI5 := Lib.hid ((HMI.out.below hg').more hg'.size)
    clear h0 h1 h2 h3 h4 h5 h6 h7 h8 h9 h10 h11 h12
    clear hg' hg HPB HPL
    obtain ⟨y0, y1, y2, y3, y4⟩ := HP5.out
    go_wp2_with fail
    refine (rfind_any n t k e R C r (by omega) ht hk (by omega) (by omega) A A3 c c3 M z HMZ.out Q q l w5 HIZ5.out HMI5.out (by omega) (by omega) hCb).mono ?_
    rintro en w7 h7
    obtain ⟨v, rfl, h8, h9⟩ := fd_no h7 HF.out
    obtain ⟨Ag, cg, Av, cv, rfl⟩ := h8
    have HB7 := Lib.hid (HB5.out.trans (h9.mono HB5.out.size))
    clear y0 y1 y2 y3 y4 h9 h7
    go_wp2_with fail
    refine (answers_any w7).mono ?_
    rintro _ w8 ⟨rfl, hb8⟩
    have HB8 := Lib.hid (HB7.out.trans (hb8.mono HB7.out.size))
    clear hb8
    go_wp2_with fail
    refine (osame0 Af Ag cf cg w8).mono ?_
    rintro _ w8 ⟨rfl, rfl⟩
    go_wp2_with fail
    refine (osint0 Aw Av cw cv w8).mono ?_
    rintro _ w8 ⟨rfl, rfl⟩
    go_wp2
    go_ret
    exact ⟨rfl, HB8.out⟩
set_option maxRecDepth 100000 in
set_option maxHeartbeats 1000000 in
theorem side_bad (a0 T0 K0 E0 R0 : Int) (q1 C : Nat) (hC : C = q1 % 4) (A : Option Addr) (c M : Nat) (A3 : Option Addr) (c3 R : Nat) (w : World) (hbad : (goodB a0 T0 K0 E0 R0 && decide (M ≤ 9) && decide (a0 ≤ 30)) = false) :
    Calls Try.prog 3 #[pv a0 T0 K0 E0 R0, .int .u8 (q1 : Int), .slice A M c, .slice A3 R c3] w fun e w' => e = .returned (.bool true) ∧ Below w.heap.size w w' := by
  have hb1 : Below w.heap.size w (w.alloc (.cells #[.int .i64 a0, .int .i64 T0, .int .i64 K0, .int .i64 E0, .int .i64 R0] 23)) := (Below.refl _ w).alloc (Nat.le_refl _) _
  have HG := Lib.hid (ogood_any a0 T0 K0 E0 R0 A M c (w.alloc (.cells #[.int .i64 a0, .int .i64 T0, .int .i64 K0, .int .i64 E0, .int .i64 R0] 23)))
  rw [hbad] at HG
  have f4 : (q1 : Int) % 4 = (C : Int) := by rw [hC]; rfl
  have f5 : ((q1 : Int)).tmod 4 = (C : Int) := by rw [Int.tmod_eq_emod_of_nonneg (by omega)]; exact f4
  have f6 : IntKind.u8.wrap (C : Int) = (C : Int) := by rw [IntKind.wrap_u8]; omega
  clear hbad hC
  go_enter Try.func3, Try.ntmps3
  go_wp2_with fail
  refine HG.out.mono ?_
  rintro _ w2 ⟨rfl, hb2⟩
  have HB2 := Lib.hid (hb1.trans (hb2.mono hb1.size))
  clear hb1 hb2 HG
  go_wp2_with fail
  refine (answers_any w2).mono ?_
  rintro _ w3 ⟨rfl, hb3⟩
  go_wp2
  go_ret
  exact ⟨rfl, HB2.out.trans (hb3.mono HB2.out.size)⟩
theorem walk (a0 T0 K0 E0 R0 : Int) (a1 : Int) (A2 : Option Addr) (c2 : Nat) (z2 : List Int) (A3 : Option Addr) (c3 R3 : Nat) (P3 : Nat → Option Addr) (n3 : Nat → Nat) (l3 : Nat → List Nat) (w : World) (_w0 : (Lit.int .i64 a0).wf = true ∧ (Lit.int .i64 T0).wf = true ∧ (Lit.int .i64 K0).wf = true ∧ (Lit.int .i64 E0).wf = true ∧ (Lit.int .i64 R0).wf = true) (w1 : (Lit.int .u8 a1).wf = true) (w2 : InZ w w.heap.size A2 c2 z2) (_s2 : c2 ≤ 17592186043904) (w3 : MIn w w.heap.size A3 c3 R3 P3 n3 l3) (s3 : c3 ≤ 5864062014634) (_b3 : ∀ i, BB (l3 i)) :
    Calls Try.prog 3 #[pv a0 T0 K0 E0 R0, .int .u8 a1, .slice A2 z2.length c2, .slice A3 R3 c3] w fun e w' => e = .returned (.bool true) ∧ Below w.heap.size w w' := by
  have hc3 := w3.cap
  obtain ⟨g1, g2⟩ := bounds_u8 w1
  obtain ⟨q, rfl⟩ := Int.eq_ofNat_of_zero_le g1
  have hq : q < 256 := by omega
  cases hbad : (goodB a0 T0 K0 E0 R0 && decide (z2.length ≤ 9) && decide (a0 ≤ 30)) with
  | false => exact side_bad a0 T0 K0 E0 R0 q _ rfl A2 c2 z2.length A3 c3 R3 w hbad
  | true =>
    simp only [Bool.and_eq_true, decide_eq_true_eq] at hbad
    obtain ⟨⟨hg, hM⟩, ha⟩ := hbad
    obtain ⟨n, t, k, e, r, rfl, rfl, rfl, rfl, rfl, h1, h2, h3, h4, h5, h6⟩ := goodB_nat hg
    by_cases hF : ∃ P, Fnd n t k e (q % 4) z2 R3 l3 P
    · obtain ⟨P, hF⟩ := hF
      exact side_yes n t k e r hg h1 h2 h5 h6 (by omega) q _ hq rfl A2 c2 _ z2 A3 c3 R3 P3 n3 l3 w rfl hM w2 w3 (by omega) P hF
    · exact side_no n t k e r hg h1 h2 h5 h6 (by omega) q _ hq rfl A2 c2 _ z2 A3 c3 R3 P3 n3 l3 w rfl hM w2 w3 (by omega) hF

set_option maxRecDepth 100000 in
theorem lifted (os : Os) (started : os.Started) (H : Type) (enc : TypeId × Value → H) :
    ReturnsInHanded {} Try.checked os 3 .any (Rows.openFindsSpec.pre6 enc Try.prog Try.f3 Rows.openFindsRow.domain false) (Rows.openFindsSpec.post enc Try.prog Try.f3 false true false false) := by
  refine returnsInHanded_of_change_sized (C := Try.checked) own started (by kernel_rfl) Try.func3
    (ChangeSpec.witness6 (enc := enc) (C := Try.checked) false ⟨#[], #[.agg #[.int .i64 0, .int .i64 0, .int .i64 0, .int .i64 0, .int .i64 0], .int .u8 0, .slice none 0 0, .slice none 0 0], []⟩ 8 (by kernel_rfl) (by kernel_rfl) (by kernel_rfl) (by kernel_rfl)) ?_
  intro W base args ds gs before hval0 hW _hcnd hsz0 _
  have hval : ∀ (j : Nat) t v, Try.f3.params[j]? = some t → args[j]? = some v → Value.okWide Try.prog W .any base t v := hval0
  have hW' := hW
  obtain ⟨p, q, hA0, hV, rfl, _hfz, _hnd⟩ := hW
  have hA : DataW.TrodAll enc Try.prog W 0 (fun _ => true) true Try.f3.params.toList args.toList ds p := hA0
  have hsz : (DataW.weightsEach Try.prog (Try.f3.params.toList ++ Rows.openFindsSpec.plain.varTypes Try.prog) (ds ++ gs)).all (· ≤ reachBytes) = true := hsz0
  rw [Try.params3] at hA hval hsz
  obtain ⟨v0, vs0, d0, ds0, p0, q0, hargs, rfl, rfl, h0, r0⟩ := trodAll_cons hA
  obtain ⟨v1, vs1, d1, ds1, p1, q1, rfl, rfl, rfl, h1, r1⟩ := trodAll_cons r0
  obtain ⟨v2, vs2, d2, ds2, p2, q2, rfl, rfl, rfl, h2, r2⟩ := trodAll_cons r1
  obtain ⟨v3, vs3, d3, ds3, p3, q3, rfl, rfl, rfl, h3, r3⟩ := trodAll_cons r2
  obtain ⟨rfl, rfl, rfl⟩ := trodAll_nil r3
  obtain rfl : args = #[v0, v1, v2, v3] := by cases args; simp_all
  obtain ⟨rfl, rfl⟩ := trodVars_none hV
  obtain ⟨a0, T0, K0, E0, R0, rfl, rfl, rfl, w0⟩ := open_five Try.underlying23 (by kernel_rfl) (by kernel_rfl) rfl rfl rfl rfl rfl Try.underlying3 (hval 0 23 v0 rfl rfl) h0
  obtain ⟨a1, rfl, rfl, rfl, w1⟩ := open_int Try.underlying5 (hval 1 5 v1 rfl rfl) h1
  have k2 := h2
  have lt2 : ∀ x ∈ p2, x.block < W.heap.size := by obtain ⟨m, hm⟩ := k2; exact DataW.trod_lt m _ _ _ hm
  obtain ⟨A2, c2, z2, rfl, w2, sz2⟩ := open_intz Try.underlying24 Try.underlying3 (by kernel_rfl) (hval 2 24 v2 rfl rfl) h2
  have s2 := sized_ints hsz (j := 2) (t := 24) (e := 3) rfl rfl Try.underlying24 (by kernel_rfl) sz2
  have k3 := h3
  have lt3 : ∀ x ∈ p3, x.block < W.heap.size := by obtain ⟨m, hm⟩ := k3; exact DataW.trod_lt m _ _ _ hm
  obtain ⟨A3, c3, R3, P3, n3, l3, rfl, w3, b3, sz3, sh3⟩ := open_rows Try.underlying25 Try.underlying36 Try.underlying5 (by kernel_rfl) (by kernel_rfl) (hval 3 25 v3 rfl rfl) h3
  have s3 := sized_rows hsz (j := 3) (t := 25) (e := 36) rfl rfl Try.underlying25 (by kernel_rfl) sz3
  clear hA0 hval0 hsz0 hsz
  refine (walk a0 T0 K0 E0 R0 a1 A2 c2 z2 A3 c3 R3 P3 n3 l3 W w0 w1 w2 s2 w3 s3 b3).mono fun e W' ⟨he, bel⟩ => ?_
  subst he
  exact ⟨_, rfl, _, _, _, [], _, [], hW', trodAll_mk1 (shut_bool Try.underlying4 _), (trodAll_cons_mk (shut_five Try.underlying23 (by kernel_rfl) (by kernel_rfl) rfl rfl rfl rfl rfl Try.underlying3 w0) (trodAll_cons_mk (shut_int Try.underlying5 w1) (trodAll_cons_mk (Below.trod laidOut (by kernel_rfl) (of_decide_eq_true (by kernel_rfl)) k2 bel lt2) (trodAll_cons_mk (Below.trod laidOut (by kernel_rfl) (of_decide_eq_true (by kernel_rfl)) k3 bel lt3) trodAll_mk0)))), rfl, bel.frame _, fun h => by cases h⟩

theorem over : Rows.openFindsRow.holds Try.pinned (OpenSpec.ofChange Rows.openFindsSpec) :=
  OpenClaim.holds_of_wide 3 Try.f3 rfl rfl rfl rfl rfl rfl rfl ⟨rfl, rfl, rfl, rfl, rfl⟩ rfl rfl rfl rfl rfl (by kernel_rfl) Try.func3 (by kernel_rfl)
    (of_decide_eq_true (by kernel_rfl)) (by unfold Func.isWrapper; first | (rw [if_pos (by decide +kernel)]; kernel_rfl) | (rw [if_neg (by decide +kernel)]; exact ⟨rfl, rfl⟩))
    (fun os started H enc _ => lifted os started H enc)

end Go.Proofs.Ytgikgnhpplmljaa.openFinds
namespace Go.Proofs.Ytgikgnhpplmljaa
/-- The statement. -/
theorem openFinds_holds : Rows.OpenFindsSaid := openFinds.over
#print axioms openFinds_holds
end Go.Proofs.Ytgikgnhpplmljaa

