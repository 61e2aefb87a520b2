/- For every input OpenCorrects returns true, and every argument reads behind the call as it did before: no condition. -/
import Derived.ProofKit
import Derived.OpenShut
import Derived.SizedLaws
import Derived.ChangeOld
import Derived.Carry
import Derived.Test.YtgikgnhpplmljaaRows
import Derived.Test.YtgikgnhpplmljaaJ1
import Derived.Test.YtgikgnhpplmljaaJ2
import Derived.Test.YtgikgnhpplmljaaJ3
import Derived.Test.YtgikgnhpplmljaaJ4
import Derived.Test.YtgikgnhpplmljaaJ5
import Derived.Test.YtgikgnhpplmljaaJ13
import Derived.Test.YtgikgnhpplmljaaJ14
import Derived.Test.YtgikgnhpplmljaaJ16
namespace Go.Proofs.Ytgikgnhpplmljaa.openCorrects
open Go.ChangeShapes Go.WideShapes Go.ChangeAt Go.RowKit Go.Shelf Gw Pol

theorem own : ownKnob Try.prog.godebug = none := by kernel_rfl
theorem laidOut : laidOutB Try.prog = true := by kernel_rfl
def OcO (wL : World) (n : Nat) (f : Nat → Bool) (sk : List Bool) (Tn : Nat → List Nat) (v12 v13 v14 i : Value) (wr : World) : Prop :=
  ∃ (q : Nat) (A : Option Addr) (c : Nat) (A' : Option Addr) (c' : Nat) (pa : Nat → Option Addr) (cp : Nat → Nat), q ≤ n ∧ i = .int .i64 (q : Int) ∧ v12 = .slice A (frL sk q).length c ∧ v13 = .slice A' (wtL f sk q).length c' ∧
    Ocs wr wL.heap.size wL.heap.size 3 36 5 A c (frL sk q) A' c' (wtL f sk q) v14 (frL sk q).length pa cp (rOf (frL sk n) Tn) ∧ Below wL.heap.size wL wr
set_option maxRecDepth 100000 in
set_option maxHeartbeats 4000000 in
theorem side_bad (a0 T0 K0 E0 R0 : Int) (hg0 : goodB a0 T0 K0 E0 R0 = false) (A1 : Option Addr) (c1 N : Nat) (A2 : Option Addr) (c2 M : Nat) (A3 : Option Addr) (c3 X3 : Nat) (A4 : Option Addr) (c4 R4 : Nat) (w : World) :
    Calls Try.prog 5 #[pv a0 T0 K0 E0 R0, .slice A1 N c1, .slice A2 M c2, .slice A3 X3 c3, .slice A4 R4 c4] w fun e w' => e = .returned (.bool true) ∧ Below w.heap.size w w' := by
  obtain ⟨w1, hw1⟩ : ∃ w1, w1 = (w.alloc (.cells #[.int .i64 a0, .int .i64 T0, .int .i64 K0, .int .i64 E0, .int .i64 R0] 23)) := ⟨_, rfl⟩
  have hb1 : Below w.heap.size w w1 := by rw [hw1]; exact (Below.refl _ w).alloc (Nat.le_refl _) _
  have HPB : Hid (Pbx w1 w.heap.size a0 T0 K0 E0 R0) := Lib.hid (by rw [hw1]; exact Pbx.new w _ _ _ _ _ _)
  have HPL := Lib.hid HPB.out.lt
  have HB1 := Lib.hid hb1
  have HG : Hid (∀ W, Calls Try.prog 20 #[pv a0 T0 K0 E0 R0] W fun e w' => e = .returned (.bool false) ∧ Below W.heap.size W w') := Lib.hid fun W => by
    have := rgood_any a0 T0 K0 E0 R0 W
    rwa [hg0] at this
  clear hb1 hg0
  go_enter Try.func5, Try.ntmps5
  go_wp2
  rw [← hw1]
  clear hw1
  rename_i KK hKK
  refine Gt.regionA [Gt.Is (pv a0 T0 K0 E0 R0), Gt.Is (.bool false), Gt.Is (.bool true), Gt.Is (.bool true), Gt.Is undef, Gt.Is undef, Gt.Is undef, Gt.Is (.bool true), Gt.Is (.bool true), Gt.Is undef, Gt.Is undef, Gt.Is undef, Gt.Is (.bool true), Gt.Is (.bool true), Gt.Is undef, Gt.Is undef, Gt.Is undef, Gt.Is undef, Gt.Is undef, Gt.Is undef, Gt.Is undef, Gt.Is undef, Gt.Is undef, Gt.Is undef, Gt.Is undef, Gt.Is (.bool true)] 152
    [⟨[], [5], none⟩, ⟨[(0, 20)], [], none⟩, ⟨[(1, 21)], [], none⟩, ⟨[(2, 22)], [], none⟩, ⟨[(3, 23)], [5], some (23, false)⟩, ⟨[(3, 23), (4, 24)], [], some (23, false)⟩, ⟨[(3, 23), (5, 25)], [], some (23, false)⟩, ⟨[(3, 23), (6, 26)], [], none⟩, ⟨[(7, 27)], [], none⟩, ⟨[(8, 28)], [1], some (28, false)⟩, ⟨[(8, 28), (9, 29)], [], some (28, false)⟩, ⟨[(8, 28), (10, 30)], [], some (28, false)⟩, ⟨[(8, 28), (11, 31)], [], none⟩, ⟨[(12, 32)], [], none⟩, ⟨[(13, 33)], [2], some (33, false)⟩, ⟨[(13, 33), (14, 34)], [], some (33, false)⟩, ⟨[(13, 33)], [5], some (33, false)⟩, ⟨[(13, 33), (16, 36)], [], some (33, false)⟩, ⟨[(13, 33)], [1], some (33, false)⟩, ⟨[(13, 33), (18, 38)], [], some (33, false)⟩, ⟨[(13, 33)], [5], some (33, false)⟩, ⟨[(13, 33), (20, 40)], [], some (33, false)⟩, ⟨[(13, 33), (19, 39), (21, 41)], [], some (33, false)⟩, ⟨[(13, 33), (17, 37), (22, 42)], [], some (33, false)⟩, ⟨[(13, 33), (15, 35), (23, 43)], [], some (33, false)⟩, ⟨[(13, 33), (24, 44)], [], none⟩]
    [(0, 20), (1, 21), (2, 22), (3, 23), (4, 24), (5, 25), (6, 26), (7, 27), (8, 28), (9, 29), (10, 30), (11, 31), (12, 32), (13, 33), (14, 34), (15, 35), (16, 36), (17, 37), (18, 38), (19, 39), (20, 40), (21, 41), (22, 42), (23, 43), (24, 44), (25, 45)] (by kernel_rfl) (by kernel_rfl) (by kernel_rfl) (by kernel_rfl) ?_ ?_ ?_
  · simp only [Gt.Monos]
    repeat' apply And.intro
    all_goals (first | exact trivial | exact Gt.Is.mono _)
  · simp only [Gt.Obs]
    repeat' apply And.intro
    all_goals try exact trivial
    all_goals (
      intro a w5 hg
      have hg' : Below w1.heap.size w1 w5 := hg
      simp only [Gt.Pre, Gt.Kept, Gt.Guarded, Gt.tys, List.getD_cons_zero, List.getD_cons_succ, Gt.Is, Nat.zero_add, Nat.reduceAdd]
      intros
      try (refine ⟨fun _ => ?_, fun hne => absurd (by assumption) hne⟩))
    all_goals (first
      | exact Gt.ok_move rfl (by assumption)
      | exact Gt.ok_assign rfl (by assumption)
      | exact Gt.ok_pick rfl (by assumption) (by rw [if_pos rfl]; assumption)
      | (exact Gt.ok_load rfl (by assumption) (HPB.out.below hg' HPL.out).load rfl)
      | (refine Gt.ok_call (f := 20) rfl #[pv a0 T0 K0 E0 R0] (by kernel_rfl) (by simp [*]) ((HG.out w5).mono ?_)
         rintro e w6 ⟨rfl, hb6⟩
         exact ⟨_, rfl, hb6, rfl⟩)
      | (have z5 := HPB.out.below hg' HPL.out
         have z50 := z5.c0
         have z51 := z5.c1
         have z52 := z5.c2
         refine Gt.ok_run ?_ rfl
         simp only [execOp, *]
         go_simp
         done)
      | (refine Gt.ok_run ?_ rfl
         simp only [execOp, resolve, List.map_toArray, List.map_cons, List.map_nil, *]
         go_simp
         done)
      | (exact ⟨fun h => absurd (show Value.bool true = Value.bool false from h.symm.trans (by assumption)) (by intro h; cases h), fun _ => trivial⟩)
      | (exact ⟨fun h => absurd (show Value.bool false = Value.bool true from h.symm.trans (by assumption)) (by intro h; cases h), fun _ => trivial⟩))
  · intro a w5 hg
    have hg' : Below w1.heap.size w1 w5 := hg
    simp only [Gt.Pre, Gt.tys, List.getD_cons_zero, List.getD_cons_succ, Gt.Is]
    intro h0 h1 h2 h3 h4 h5 h6 h7 h8 h9 h10 h11 h12 h13 h14 h15 h16 h17 h18 h19 h20 h21 h22 h23 h24 h25
    show KK _ _
    refine hKK _ _ ?_
    simp only [Gt.puts, List.foldl_cons, List.foldl_nil, h0, h1, h2, h3, h4, h5, h6, h7, h8, h9, h10, h11, h12, h13, h14, h15, h16, h17, h18, h19, h20, h21, h22, h23, h24, h25]
    simp only [Act.put, List.setIfInBounds_toArray, List.set_cons_zero, List.set_cons_succ]
    have HB5 := Lib.hid (HB1.out.trans (hg'.mono HB1.out.size))
    clear h0 h1 h2 h3 h4 h5 h6 h7 h8 h9 h10 h11 h12 h13 h14 h15 h16 h17 h18 h19 h20 h21 h22 h23 h24 h25
    clear hg' hg
    go_wp2_with fail
    refine (answers_any w5).mono ?_
    rintro _ w6 ⟨rfl, hb6⟩
    go_wp2
    go_ret
    exact ⟨rfl, HB5.out.trans (hb6.mono HB5.out.size)⟩
set_option maxRecDepth 100000 in
set_option maxHeartbeats 4000000 in
theorem side_big (n t k e r : Nat) (hg0 : goodB n t k e r = true) (hn : 30 < n) (A1 : Option Addr) (c1 N : Nat) (A2 : Option Addr) (c2 M : Nat) (A3 : Option Addr) (c3 X3 : Nat) (A4 : Option Addr) (c4 R4 : Nat) (w : World) :
    Calls Try.prog 5 #[pv (n : Int) (t : Int) (k : Int) (e : Int) (r : Int), .slice A1 N c1, .slice A2 M c2, .slice A3 X3 c3, .slice A4 R4 c4] w fun e w' => e = .returned (.bool true) ∧ Below w.heap.size w w' := by
  have f1 : (30 : Int) < (n : Int) := by omega
  obtain ⟨w1, hw1⟩ : ∃ w1, w1 = (w.alloc (.cells #[.int .i64 (n : Int), .int .i64 (t : Int), .int .i64 (k : Int), .int .i64 (e : Int), .int .i64 (r : Int)] 23)) := ⟨_, rfl⟩
  have hb1 : Below w.heap.size w w1 := by rw [hw1]; exact (Below.refl _ w).alloc (Nat.le_refl _) _
  have HPB : Hid (Pbx w1 w.heap.size n t k e r) := Lib.hid (by rw [hw1]; exact Pbx.new w _ _ _ _ _ _)
  have HPL := Lib.hid HPB.out.lt
  have HB1 := Lib.hid hb1
  have HG : Hid (∀ W, Calls Try.prog 20 #[pv (n : Int) (t : Int) (k : Int) (e : Int) (r : Int)] W fun e w' => e = .returned (.bool true) ∧ Below W.heap.size W w') := Lib.hid fun W => by
    have := rgood_any n t k e r W
    rwa [hg0] at this
  clear hb1 hg0
  go_enter Try.func5, Try.ntmps5
  go_wp2
  rw [← hw1]
  clear hw1
  rename_i KK hKK
  refine Gt.regionA [Gt.Is (pv (n : Int) (t : Int) (k : Int) (e : Int) (r : Int)), Gt.Is (.bool true), Gt.Is (.bool false), Gt.Is (.bool false), Gt.Is (.pointer (some ⟨w.heap.size, 0, none⟩)), Gt.Is (.int .i64 (n : Int)), Gt.Is (.bool true), Gt.Is (.bool true), Gt.Is (.bool true), Gt.Is undef, Gt.Is undef, Gt.Is undef, Gt.Is (.bool true), Gt.Is (.bool true), Gt.Is undef, Gt.Is undef, Gt.Is undef, Gt.Is undef, Gt.Is undef, Gt.Is undef, Gt.Is undef, Gt.Is undef, Gt.Is undef, Gt.Is undef, Gt.Is undef, Gt.Is (.bool true)] 152
    [⟨[], [5], none⟩, ⟨[(0, 20)], [], none⟩, ⟨[(1, 21)], [], none⟩, ⟨[(2, 22)], [], none⟩, ⟨[(3, 23)], [5], some (23, false)⟩, ⟨[(3, 23), (4, 24)], [], some (23, false)⟩, ⟨[(3, 23), (5, 25)], [], some (23, false)⟩, ⟨[(3, 23), (6, 26)], [], none⟩, ⟨[(7, 27)], [], none⟩, ⟨[(8, 28)], [1], some (28, false)⟩, ⟨[(8, 28), (9, 29)], [], some (28, false)⟩, ⟨[(8, 28), (10, 30)], [], some (28, false)⟩, ⟨[(8, 28), (11, 31)], [], none⟩, ⟨[(12, 32)], [], none⟩, ⟨[(13, 33)], [2], some (33, false)⟩, ⟨[(13, 33), (14, 34)], [], some (33, false)⟩, ⟨[(13, 33)], [5], some (33, false)⟩, ⟨[(13, 33), (16, 36)], [], some (33, false)⟩, ⟨[(13, 33)], [1], some (33, false)⟩, ⟨[(13, 33), (18, 38)], [], some (33, false)⟩, ⟨[(13, 33)], [5], some (33, false)⟩, ⟨[(13, 33), (20, 40)], [], some (33, false)⟩, ⟨[(13, 33), (19, 39), (21, 41)], [], some (33, false)⟩, ⟨[(13, 33), (17, 37), (22, 42)], [], some (33, false)⟩, ⟨[(13, 33), (15, 35), (23, 43)], [], some (33, false)⟩, ⟨[(13, 33), (24, 44)], [], none⟩]
    [(0, 20), (1, 21), (2, 22), (3, 23), (4, 24), (5, 25), (6, 26), (7, 27), (8, 28), (9, 29), (10, 30), (11, 31), (12, 32), (13, 33), (14, 34), (15, 35), (16, 36), (17, 37), (18, 38), (19, 39), (20, 40), (21, 41), (22, 42), (23, 43), (24, 44), (25, 45)] (by kernel_rfl) (by kernel_rfl) (by kernel_rfl) (by kernel_rfl) ?_ ?_ ?_
  · simp only [Gt.Monos]
    repeat' apply And.intro
    all_goals (first | exact trivial | exact Gt.Is.mono _)
  · simp only [Gt.Obs]
    repeat' apply And.intro
    all_goals try exact trivial
    all_goals (
      intro a w5 hg
      have hg' : Below w1.heap.size w1 w5 := hg
      simp only [Gt.Pre, Gt.Kept, Gt.Guarded, Gt.tys, List.getD_cons_zero, List.getD_cons_succ, Gt.Is, Nat.zero_add, Nat.reduceAdd]
      intros
      try (refine ⟨fun _ => ?_, fun hne => absurd (by assumption) hne⟩))
    all_goals (first
      | exact Gt.ok_move rfl (by assumption)
      | exact Gt.ok_assign rfl (by assumption)
      | exact Gt.ok_pick rfl (by assumption) (by rw [if_pos rfl]; assumption)
      | (exact Gt.ok_load rfl (by assumption) (HPB.out.below hg' HPL.out).load rfl)
      | (refine Gt.ok_call (f := 20) rfl #[pv (n : Int) (t : Int) (k : Int) (e : Int) (r : Int)] (by kernel_rfl) (by simp [*]) ((HG.out w5).mono ?_)
         rintro e w6 ⟨rfl, hb6⟩
         exact ⟨_, rfl, hb6, rfl⟩)
      | (have z5 := HPB.out.below hg' HPL.out
         have z50 := z5.c0
         have z51 := z5.c1
         have z52 := z5.c2
         refine Gt.ok_run ?_ rfl
         simp only [execOp, *]
         go_simp
         done)
      | (refine Gt.ok_run ?_ rfl
         simp only [execOp, resolve, List.map_toArray, List.map_cons, List.map_nil, *]
         go_simp
         done)
      | (exact ⟨fun h => absurd (show Value.bool true = Value.bool false from h.symm.trans (by assumption)) (by intro h; cases h), fun _ => trivial⟩)
      | (exact ⟨fun h => absurd (show Value.bool false = Value.bool true from h.symm.trans (by assumption)) (by intro h; cases h), fun _ => trivial⟩))
  · intro a w5 hg
    have hg' : Below w1.heap.size w1 w5 := hg
    simp only [Gt.Pre, Gt.tys, List.getD_cons_zero, List.getD_cons_succ, Gt.Is]
    intro h0 h1 h2 h3 h4 h5 h6 h7 h8 h9 h10 h11 h12 h13 h14 h15 h16 h17 h18 h19 h20 h21 h22 h23 h24 h25
    show KK _ _
    refine hKK _ _ ?_
    simp only [Gt.puts, List.foldl_cons, List.foldl_nil, h0, h1, h2, h3, h4, h5, h6, h7, h8, h9, h10, h11, h12, h13, h14, h15, h16, h17, h18, h19, h20, h21, h22, h23, h24, h25]
    simp only [Act.put, List.setIfInBounds_toArray, List.set_cons_zero, List.set_cons_succ]
    have HB5 := Lib.hid (HB1.out.trans (hg'.mono HB1.out.size))
    clear h0 h1 h2 h3 h4 h5 h6 h7 h8 h9 h10 h11 h12 h13 h14 h15 h16 h17 h18 h19 h20 h21 h22 h23 h24 h25
    clear hg' hg
    go_wp2_with fail
    refine (answers_any w5).mono ?_
    rintro _ w6 ⟨rfl, hb6⟩
    go_wp2
    go_ret
    exact ⟨rfl, HB5.out.trans (hb6.mono HB5.out.size)⟩
set_option maxRecDepth 100000 in
set_option maxHeartbeats 4000000 in
theorem side_long (n t k e r : Nat) (hg0 : goodB n t k e r = true) (hn : n ≤ 30) (A1 : Option Addr) (c1 N : Nat) (A2 : Option Addr) (c2 M : Nat) (A3 : Option Addr) (c3 X3 : Nat) (A4 : Option Addr) (c4 R4 : Nat) (w : World) (hN : 30 < N) :
    Calls Try.prog 5 #[pv (n : Int) (t : Int) (k : Int) (e : Int) (r : Int), .slice A1 N c1, .slice A2 M c2, .slice A3 X3 c3, .slice A4 R4 c4] w fun e w' => e = .returned (.bool true) ∧ Below w.heap.size w w' := by
  have f1 : ¬ ((30 : Int) < (n : Int)) := by omega
  have f2 : (30 : Int) < (N : Int) := by omega
  obtain ⟨w1, hw1⟩ : ∃ w1, w1 = (w.alloc (.cells #[.int .i64 (n : Int), .int .i64 (t : Int), .int .i64 (k : Int), .int .i64 (e : Int), .int .i64 (r : Int)] 23)) := ⟨_, rfl⟩
  have hb1 : Below w.heap.size w w1 := by rw [hw1]; exact (Below.refl _ w).alloc (Nat.le_refl _) _
  have HPB : Hid (Pbx w1 w.heap.size n t k e r) := Lib.hid (by rw [hw1]; exact Pbx.new w _ _ _ _ _ _)
  have HPL := Lib.hid HPB.out.lt
  have HB1 := Lib.hid hb1
  have HG : Hid (∀ W, Calls Try.prog 20 #[pv (n : Int) (t : Int) (k : Int) (e : Int) (r : Int)] W fun e w' => e = .returned (.bool true) ∧ Below W.heap.size W w') := Lib.hid fun W => by
    have := rgood_any n t k e r W
    rwa [hg0] at this
  clear hb1 hg0
  go_enter Try.func5, Try.ntmps5
  go_wp2
  rw [← hw1]
  clear hw1
  rename_i KK hKK
  refine Gt.regionA [Gt.Is (pv (n : Int) (t : Int) (k : Int) (e : Int) (r : Int)), Gt.Is (.bool true), Gt.Is (.bool false), Gt.Is (.bool false), Gt.Is (.pointer (some ⟨w.heap.size, 0, none⟩)), Gt.Is (.int .i64 (n : Int)), Gt.Is (.bool false), Gt.Is (.bool false), Gt.Is (.bool false), Gt.Is (.slice A1 N c1), Gt.Is (.int .i64 (N : Int)), Gt.Is (.bool true), Gt.Is (.bool true), Gt.Is (.bool true), Gt.Is undef, Gt.Is undef, Gt.Is undef, Gt.Is undef, Gt.Is undef, Gt.Is undef, Gt.Is undef, Gt.Is undef, Gt.Is undef, Gt.Is undef, Gt.Is undef, Gt.Is (.bool true)] 152
    [⟨[], [5], none⟩, ⟨[(0, 20)], [], none⟩, ⟨[(1, 21)], [], none⟩, ⟨[(2, 22)], [], none⟩, ⟨[(3, 23)], [5], some (23, false)⟩, ⟨[(3, 23), (4, 24)], [], some (23, false)⟩, ⟨[(3, 23), (5, 25)], [], some (23, false)⟩, ⟨[(3, 23), (6, 26)], [], none⟩, ⟨[(7, 27)], [], none⟩, ⟨[(8, 28)], [1], some (28, false)⟩, ⟨[(8, 28), (9, 29)], [], some (28, false)⟩, ⟨[(8, 28), (10, 30)], [], some (28, false)⟩, ⟨[(8, 28), (11, 31)], [], none⟩, ⟨[(12, 32)], [], none⟩, ⟨[(13, 33)], [2], some (33, false)⟩, ⟨[(13, 33), (14, 34)], [], some (33, false)⟩, ⟨[(13, 33)], [5], some (33, false)⟩, ⟨[(13, 33), (16, 36)], [], some (33, false)⟩, ⟨[(13, 33)], [1], some (33, false)⟩, ⟨[(13, 33), (18, 38)], [], some (33, false)⟩, ⟨[(13, 33)], [5], some (33, false)⟩, ⟨[(13, 33), (20, 40)], [], some (33, false)⟩, ⟨[(13, 33), (19, 39), (21, 41)], [], some (33, false)⟩, ⟨[(13, 33), (17, 37), (22, 42)], [], some (33, false)⟩, ⟨[(13, 33), (15, 35), (23, 43)], [], some (33, false)⟩, ⟨[(13, 33), (24, 44)], [], none⟩]
    [(0, 20), (1, 21), (2, 22), (3, 23), (4, 24), (5, 25), (6, 26), (7, 27), (8, 28), (9, 29), (10, 30), (11, 31), (12, 32), (13, 33), (14, 34), (15, 35), (16, 36), (17, 37), (18, 38), (19, 39), (20, 40), (21, 41), (22, 42), (23, 43), (24, 44), (25, 45)] (by kernel_rfl) (by kernel_rfl) (by kernel_rfl) (by kernel_rfl) ?_ ?_ ?_
  · simp only [Gt.Monos]
    repeat' apply And.intro
    all_goals (first | exact trivial | exact Gt.Is.mono _)
  · simp only [Gt.Obs]
    repeat' apply And.intro
    all_goals try exact trivial
    all_goals (
      intro a w5 hg
      have hg' : Below w1.heap.size w1 w5 := hg
      simp only [Gt.Pre, Gt.Kept, Gt.Guarded, Gt.tys, List.getD_cons_zero, List.getD_cons_succ, Gt.Is, Nat.zero_add, Nat.reduceAdd]
      intros
      try (refine ⟨fun _ => ?_, fun hne => absurd (by assumption) hne⟩))
    all_goals (first
      | exact Gt.ok_move rfl (by assumption)
      | exact Gt.ok_assign rfl (by assumption)
      | exact Gt.ok_pick rfl (by assumption) (by rw [if_pos rfl]; assumption)
      | (exact Gt.ok_load rfl (by assumption) (HPB.out.below hg' HPL.out).load rfl)
      | (refine Gt.ok_call (f := 20) rfl #[pv (n : Int) (t : Int) (k : Int) (e : Int) (r : Int)] (by kernel_rfl) (by simp [*]) ((HG.out w5).mono ?_)
         rintro e w6 ⟨rfl, hb6⟩
         exact ⟨_, rfl, hb6, rfl⟩)
      | (have z5 := HPB.out.below hg' HPL.out
         have z50 := z5.c0
         have z51 := z5.c1
         have z52 := z5.c2
         refine Gt.ok_run ?_ rfl
         simp only [execOp, *]
         go_simp
         done)
      | (refine Gt.ok_run ?_ rfl
         simp only [execOp, resolve, List.map_toArray, List.map_cons, List.map_nil, *]
         go_simp
         done)
      | (exact ⟨fun h => absurd (show Value.bool true = Value.bool false from h.symm.trans (by assumption)) (by intro h; cases h), fun _ => trivial⟩)
      | (exact ⟨fun h => absurd (show Value.bool false = Value.bool true from h.symm.trans (by assumption)) (by intro h; cases h), fun _ => trivial⟩))
  · intro a w5 hg
    have hg' : Below w1.heap.size w1 w5 := hg
    simp only [Gt.Pre, Gt.tys, List.getD_cons_zero, List.getD_cons_succ, Gt.Is]
    intro h0 h1 h2 h3 h4 h5 h6 h7 h8 h9 h10 h11 h12 h13 h14 h15 h16 h17 h18 h19 h20 h21 h22 h23 h24 h25
    show KK _ _
    refine hKK _ _ ?_
    simp only [Gt.puts, List.foldl_cons, List.foldl_nil, h0, h1, h2, h3, h4, h5, h6, h7, h8, h9, h10, h11, h12, h13, h14, h15, h16, h17, h18, h19, h20, h21, h22, h23, h24, h25]
    simp only [Act.put, List.setIfInBounds_toArray, List.set_cons_zero, List.set_cons_succ]
    have HB5 := Lib.hid (HB1.out.trans (hg'.mono HB1.out.size))
    clear h0 h1 h2 h3 h4 h5 h6 h7 h8 h9 h10 h11 h12 h13 h14 h15 h16 h17 h18 h19 h20 h21 h22 h23 h24 h25
    clear hg' hg
    go_wp2_with fail
    refine (answers_any w5).mono ?_
    rintro _ w6 ⟨rfl, hb6⟩
    go_wp2
    go_ret
    exact ⟨rfl, HB5.out.trans (hb6.mono HB5.out.size)⟩
set_option maxRecDepth 100000 in
set_option maxHeartbeats 4000000 in
theorem side_miss (n t k e r : Nat) (hg0 : goodB n t k e r = true) (hn : n ≤ 30) (ht : t ≤ 255) (hk : 1 ≤ k) (hkb : k ≤ 255) (C : Nat) (A1 : Option Addr) (c1 N : Nat) (A2 : Option Addr) (c2 M : Nat) (A3 : Option Addr) (c3 X3 : Nat) (A4 : Option Addr) (c4 R4 : Nat) (w : World) (hN : N ≤ 30) (hC : C = Sp.cnt N k) (hM : M ≠ t * C) :
    Calls Try.prog 5 #[pv (n : Int) (t : Int) (k : Int) (e : Int) (r : Int), .slice A1 N c1, .slice A2 M c2, .slice A3 X3 c3, .slice A4 R4 c4] w fun e w' => e = .returned (.bool true) ∧ Below w.heap.size w w' := by
  have f1 : ¬ ((30 : Int) < (n : Int)) := by omega
  have f2 : ¬ ((30 : Int) < (N : Int)) := by omega
  have hCN : C ≤ N := by rw [hC]; exact Sp.cnt_le N k
  obtain ⟨tC, htC⟩ : ∃ x, x = t * C := ⟨_, rfl⟩
  have f3 : (t : Int) * (C : Int) = (tC : Int) := by rw [htC]; simp
  have htCb : tC ≤ 255 * 30 := by rw [htC]; exact Nat.mul_le_mul ht (by omega)
  have f5 : IntKind.i64.wrap (tC : Int) = (tC : Int) := by rw [IntKind.wrap_i64]; omega
  have f4 : ((M : Int) != (tC : Int)) = true := by simp; omega
  have HC0 := Lib.hid hC
  clear hC htC hM
  obtain ⟨w1, hw1⟩ : ∃ w1, w1 = (w.alloc (.cells #[.int .i64 (n : Int), .int .i64 (t : Int), .int .i64 (k : Int), .int .i64 (e : Int), .int .i64 (r : Int)] 23)) := ⟨_, rfl⟩
  have hb1 : Below w.heap.size w w1 := by rw [hw1]; exact (Below.refl _ w).alloc (Nat.le_refl _) _
  have HPB : Hid (Pbx w1 w.heap.size n t k e r) := Lib.hid (by rw [hw1]; exact Pbx.new w _ _ _ _ _ _)
  have HPL := Lib.hid HPB.out.lt
  have HB1 := Lib.hid hb1
  have HG : Hid (∀ W, Calls Try.prog 20 #[pv (n : Int) (t : Int) (k : Int) (e : Int) (r : Int)] W fun e w' => e = .returned (.bool true) ∧ Below W.heap.size W w') := Lib.hid fun W => by
    have := rgood_any n t k e r W
    rwa [hg0] at this
  clear hb1 hg0
  go_enter Try.func5, Try.ntmps5
  go_wp2
  rw [← hw1]
  clear hw1
  rename_i KK hKK
  refine Gt.regionA [Gt.Is (pv (n : Int) (t : Int) (k : Int) (e : Int) (r : Int)), Gt.Is (.bool true), Gt.Is (.bool false), Gt.Is (.bool false), Gt.Is (.pointer (some ⟨w.heap.size, 0, none⟩)), Gt.Is (.int .i64 (n : Int)), Gt.Is (.bool false), Gt.Is (.bool false), Gt.Is (.bool false), Gt.Is (.slice A1 N c1), Gt.Is (.int .i64 (N : Int)), Gt.Is (.bool false), Gt.Is (.bool false), Gt.Is (.bool false), Gt.Is (.slice A2 M c2), Gt.Is (.int .i64 (M : Int)), Gt.Is (.pointer (some ⟨w.heap.size, 1, none⟩)), Gt.Is (.int .i64 (t : Int)), Gt.Is (.slice A1 N c1), Gt.Is (.int .i64 (N : Int)), Gt.Is (.pointer (some ⟨w.heap.size, 2, none⟩)), Gt.Is (.int .i64 (k : Int)), Gt.Is (.int .i64 (C : Int)), Gt.Is (.int .i64 (tC : Int)), Gt.Is (.bool true), Gt.Is (.bool true)] 152
    [⟨[], [5], none⟩, ⟨[(0, 20)], [], none⟩, ⟨[(1, 21)], [], none⟩, ⟨[(2, 22)], [], none⟩, ⟨[(3, 23)], [5], some (23, false)⟩, ⟨[(3, 23), (4, 24)], [], some (23, false)⟩, ⟨[(3, 23), (5, 25)], [], some (23, false)⟩, ⟨[(3, 23), (6, 26)], [], none⟩, ⟨[(7, 27)], [], none⟩, ⟨[(8, 28)], [1], some (28, false)⟩, ⟨[(8, 28), (9, 29)], [], some (28, false)⟩, ⟨[(8, 28), (10, 30)], [], some (28, false)⟩, ⟨[(8, 28), (11, 31)], [], none⟩, ⟨[(12, 32)], [], none⟩, ⟨[(13, 33)], [2], some (33, false)⟩, ⟨[(13, 33), (14, 34)], [], some (33, false)⟩, ⟨[(13, 33)], [5], some (33, false)⟩, ⟨[(13, 33), (16, 36)], [], some (33, false)⟩, ⟨[(13, 33)], [1], some (33, false)⟩, ⟨[(13, 33), (18, 38)], [], some (33, false)⟩, ⟨[(13, 33)], [5], some (33, false)⟩, ⟨[(13, 33), (20, 40)], [], some (33, false)⟩, ⟨[(13, 33), (19, 39), (21, 41)], [], some (33, false)⟩, ⟨[(13, 33), (17, 37), (22, 42)], [], some (33, false)⟩, ⟨[(13, 33), (15, 35), (23, 43)], [], some (33, false)⟩, ⟨[(13, 33), (24, 44)], [], none⟩]
    [(0, 20), (1, 21), (2, 22), (3, 23), (4, 24), (5, 25), (6, 26), (7, 27), (8, 28), (9, 29), (10, 30), (11, 31), (12, 32), (13, 33), (14, 34), (15, 35), (16, 36), (17, 37), (18, 38), (19, 39), (20, 40), (21, 41), (22, 42), (23, 43), (24, 44), (25, 45)] (by kernel_rfl) (by kernel_rfl) (by kernel_rfl) (by kernel_rfl) ?_ ?_ ?_
  · simp only [Gt.Monos]
    repeat' apply And.intro
    all_goals (first | exact trivial | exact Gt.Is.mono _)
  · simp only [Gt.Obs]
    repeat' apply And.intro
    all_goals try exact trivial
    all_goals (
      intro a w5 hg
      have hg' : Below w1.heap.size w1 w5 := hg
      simp only [Gt.Pre, Gt.Kept, Gt.Guarded, Gt.tys, List.getD_cons_zero, List.getD_cons_succ, Gt.Is, Nat.zero_add, Nat.reduceAdd]
      intros
      try (refine ⟨fun _ => ?_, fun hne => absurd (by assumption) hne⟩))
    all_goals (first
      | exact Gt.ok_move rfl (by assumption)
      | exact Gt.ok_assign rfl (by assumption)
      | exact Gt.ok_pick rfl (by assumption) (by rw [if_pos rfl]; assumption)
      | (exact Gt.ok_load rfl (by assumption) (HPB.out.below hg' HPL.out).load rfl)
      | (refine Gt.ok_call (f := 20) rfl #[pv (n : Int) (t : Int) (k : Int) (e : Int) (r : Int)] (by kernel_rfl) (by simp [*]) ((HG.out w5).mono ?_)
         rintro e w6 ⟨rfl, hb6⟩
         exact ⟨_, rfl, hb6, rfl⟩)
      | (refine Gt.ok_call (f := 16) rfl #[.int .i64 (N : Int), .int .i64 (k : Int)] (by kernel_rfl) (by simp [*]) ((rcols_any N k (by omega) (by omega) (by omega) w5).mono ?_)
         rintro e w6 ⟨rfl, rfl⟩
         exact ⟨_, rfl, Below.refl _ _, by rw [← HC0.out]; rfl⟩)
      | (have z5 := HPB.out.below hg' HPL.out
         have z50 := z5.c0
         have z51 := z5.c1
         have z52 := z5.c2
         refine Gt.ok_run ?_ rfl
         simp only [execOp, *]
         go_simp
         done)
      | (refine Gt.ok_run ?_ rfl
         simp only [execOp, resolve, List.map_toArray, List.map_cons, List.map_nil, *]
         go_simp
         done)
      | (exact ⟨fun h => absurd (show Value.bool true = Value.bool false from h.symm.trans (by assumption)) (by intro h; cases h), fun _ => trivial⟩)
      | (exact ⟨fun h => absurd (show Value.bool false = Value.bool true from h.symm.trans (by assumption)) (by intro h; cases h), fun _ => trivial⟩))
  · intro a w5 hg
    have hg' : Below w1.heap.size w1 w5 := hg
    simp only [Gt.Pre, Gt.tys, List.getD_cons_zero, List.getD_cons_succ, Gt.Is]
    intro h0 h1 h2 h3 h4 h5 h6 h7 h8 h9 h10 h11 h12 h13 h14 h15 h16 h17 h18 h19 h20 h21 h22 h23 h24 h25
    show KK _ _
    refine hKK _ _ ?_
    simp only [Gt.puts, List.foldl_cons, List.foldl_nil, h0, h1, h2, h3, h4, h5, h6, h7, h8, h9, h10, h11, h12, h13, h14, h15, h16, h17, h18, h19, h20, h21, h22, h23, h24, h25]
    simp only [Act.put, List.setIfInBounds_toArray, List.set_cons_zero, List.set_cons_succ]
    have HB5 := Lib.hid (HB1.out.trans (hg'.mono HB1.out.size))
    clear h0 h1 h2 h3 h4 h5 h6 h7 h8 h9 h10 h11 h12 h13 h14 h15 h16 h17 h18 h19 h20 h21 h22 h23 h24 h25
    clear hg' hg
    go_wp2_with fail
    refine (answers_any w5).mono ?_
    rintro _ w6 ⟨rfl, hb6⟩
    go_wp2
    go_ret
    exact ⟨rfl, HB5.out.trans (hb6.mono HB5.out.size)⟩
set_option maxRecDepth 100000 in
set_option maxHeartbeats 16000000 in
theorem side_main (n t k e r : Nat) (hg0 : goodB n t k e r = true) (ht : 1 ≤ t) (hk : 1 ≤ k) (hm : t + k + 2 * e ≤ n) (hnk : n + k ≤ 255) (hn : n ≤ 30) (A1 : Option Addr) (c1 N : Nat) (l1 : List Nat) (A2 : Option Addr) (c2 M : Nat) (l2 : List Nat) (A3 : Option Addr) (c3 X3 : Nat) (z3 : List Bool) (A4 : Option Addr) (c4 R4 : Nat) (P4 : Nat → Option Addr) (n4 : Nat → Nat) (l4 : Nat → List Nat) (w : World) (hN1 : N = l1.length) (hM1 : M = l2.length) (hX3 : X3 = z3.length) (hN : N ≤ 30) (C : Nat) (hC : C = Sp.cnt N k) (hM : M = t * C) (wi1 : In w w.heap.size A1 c1 l1) (wi2 : In w w.heap.size A2 c2 l2) (wi3 : InB w w.heap.size A3 c3 z3) (wi4 : MIn w w.heap.size A4 c4 R4 P4 n4 l4) (hRb : R4 ≤ 5864062014634) (hXb : X3 ≤ 140737488351232) :
    Calls Try.prog 5 #[pv (n : Int) (t : Int) (k : Int) (e : Int) (r : Int), .slice A1 N c1, .slice A2 M c2, .slice A3 X3 c3, .slice A4 R4 c4] w fun e w' => e = .returned (.bool true) ∧ Below w.heap.size w w' := by
  obtain ⟨i0, hi0, hz0, hz1, hz2⟩ := info_parts pint_info
  obtain ⟨i1, hj0, hj1, hj2, hj3⟩ := info_parts srow_info
  have f1 : ¬ ((30 : Int) < (n : Int)) := by omega
  have f2 : ¬ ((30 : Int) < (N : Int)) := by omega
  have hCN : C ≤ N := by rw [hC]; exact Sp.cnt_le N k
  obtain ⟨tC, htC⟩ : ∃ x, x = t * C := ⟨_, rfl⟩
  have f3 : (t : Int) * (C : Int) = (tC : Int) := by rw [htC]; simp
  have htCb : tC ≤ 255 * 30 := by rw [htC]; exact Nat.mul_le_mul (show t ≤ 255 by omega) (by omega)
  have f5 : IntKind.i64.wrap (tC : Int) = (tC : Int) := by rw [IntKind.wrap_i64]; omega
  have f4 : ((M : Int) != (tC : Int)) = false := by rw [bne_eq_false_iff_eq]; omega
  have HC0 := Lib.hid hC
  have HN := Lib.hid hN1
  have HM := Lib.hid hM1
  have HX3 := Lib.hid hX3
  have HLE := Lib.hid (show C * t ≤ l2.length by rw [← hM1, hM, Nat.mul_comm]; exact Nat.le_refl _)
  have HI1 := Lib.hid wi1
  have HI2 := Lib.hid wi2
  have HI3 := Lib.hid wi3
  have HMT := Lib.hid wi4
  have hcap3 := wi3.cap
  have hcap4 := wi4.cap
  rw [← hX3] at hcap3
  clear hC htC hM hN1 hM1 hX3 wi1 wi2 wi3 wi4
  obtain ⟨w1, hw1⟩ : ∃ w1, w1 = (w.alloc (.cells #[.int .i64 (n : Int), .int .i64 (t : Int), .int .i64 (k : Int), .int .i64 (e : Int), .int .i64 (r : Int)] 23)) := ⟨_, rfl⟩
  have hb1 : Below w.heap.size w w1 := by rw [hw1]; exact (Below.refl _ w).alloc (Nat.le_refl _) _
  have HPB : Hid (Pbx w1 w.heap.size n t k e r) := Lib.hid (by rw [hw1]; exact Pbx.new w _ _ _ _ _ _)
  have HPL := Lib.hid HPB.out.lt
  have HB1 := Lib.hid hb1
  have HG : Hid (∀ W, Calls Try.prog 20 #[pv (n : Int) (t : Int) (k : Int) (e : Int) (r : Int)] W fun e w' => e = .returned (.bool true) ∧ Below W.heap.size W w') := Lib.hid fun W => by
    have := rgood_any n t k e r W
    rwa [hg0] at this
  clear hb1
  go_enter Try.func5, Try.ntmps5
  go_wp2
  rw [← hw1]
  clear hw1
  rename_i KK hKK
  refine Gt.regionA [Gt.Is (pv (n : Int) (t : Int) (k : Int) (e : Int) (r : Int)), Gt.Is (.bool true), Gt.Is (.bool false), Gt.Is (.bool false), Gt.Is (.pointer (some ⟨w.heap.size, 0, none⟩)), Gt.Is (.int .i64 (n : Int)), Gt.Is (.bool false), Gt.Is (.bool false), Gt.Is (.bool false), Gt.Is (.slice A1 N c1), Gt.Is (.int .i64 (N : Int)), Gt.Is (.bool false), Gt.Is (.bool false), Gt.Is (.bool false), Gt.Is (.slice A2 M c2), Gt.Is (.int .i64 (M : Int)), Gt.Is (.pointer (some ⟨w.heap.size, 1, none⟩)), Gt.Is (.int .i64 (t : Int)), Gt.Is (.slice A1 N c1), Gt.Is (.int .i64 (N : Int)), Gt.Is (.pointer (some ⟨w.heap.size, 2, none⟩)), Gt.Is (.int .i64 (k : Int)), Gt.Is (.int .i64 (C : Int)), Gt.Is (.int .i64 (tC : Int)), Gt.Is (.bool false), Gt.Is (.bool false)] 152
    [⟨[], [5], none⟩, ⟨[(0, 20)], [], none⟩, ⟨[(1, 21)], [], none⟩, ⟨[(2, 22)], [], none⟩, ⟨[(3, 23)], [5], some (23, false)⟩, ⟨[(3, 23), (4, 24)], [], some (23, false)⟩, ⟨[(3, 23), (5, 25)], [], some (23, false)⟩, ⟨[(3, 23), (6, 26)], [], none⟩, ⟨[(7, 27)], [], none⟩, ⟨[(8, 28)], [1], some (28, false)⟩, ⟨[(8, 28), (9, 29)], [], some (28, false)⟩, ⟨[(8, 28), (10, 30)], [], some (28, false)⟩, ⟨[(8, 28), (11, 31)], [], none⟩, ⟨[(12, 32)], [], none⟩, ⟨[(13, 33)], [2], some (33, false)⟩, ⟨[(13, 33), (14, 34)], [], some (33, false)⟩, ⟨[(13, 33)], [5], some (33, false)⟩, ⟨[(13, 33), (16, 36)], [], some (33, false)⟩, ⟨[(13, 33)], [1], some (33, false)⟩, ⟨[(13, 33), (18, 38)], [], some (33, false)⟩, ⟨[(13, 33)], [5], some (33, false)⟩, ⟨[(13, 33), (20, 40)], [], some (33, false)⟩, ⟨[(13, 33), (19, 39), (21, 41)], [], some (33, false)⟩, ⟨[(13, 33), (17, 37), (22, 42)], [], some (33, false)⟩, ⟨[(13, 33), (15, 35), (23, 43)], [], some (33, false)⟩, ⟨[(13, 33), (24, 44)], [], none⟩]
    [(0, 20), (1, 21), (2, 22), (3, 23), (4, 24), (5, 25), (6, 26), (7, 27), (8, 28), (9, 29), (10, 30), (11, 31), (12, 32), (13, 33), (14, 34), (15, 35), (16, 36), (17, 37), (18, 38), (19, 39), (20, 40), (21, 41), (22, 42), (23, 43), (24, 44), (25, 45)] (by kernel_rfl) (by kernel_rfl) (by kernel_rfl) (by kernel_rfl) ?_ ?_ ?_
  · simp only [Gt.Monos]
    repeat' apply And.intro
    all_goals (first | exact trivial | exact Gt.Is.mono _)
  · simp only [Gt.Obs]
    repeat' apply And.intro
    all_goals try exact trivial
    all_goals (
      intro a w5 hg
      have hg' : Below w1.heap.size w1 w5 := hg
      simp only [Gt.Pre, Gt.Kept, Gt.Guarded, Gt.tys, List.getD_cons_zero, List.getD_cons_succ, Gt.Is, Nat.zero_add, Nat.reduceAdd]
      intros
      try (refine ⟨fun _ => ?_, fun hne => absurd (by assumption) hne⟩))
    all_goals (first
      | exact Gt.ok_move rfl (by assumption)
      | exact Gt.ok_assign rfl (by assumption)
      | exact Gt.ok_pick rfl (by assumption) (by rw [if_pos rfl]; assumption)
      | (exact Gt.ok_load rfl (by assumption) (HPB.out.below hg' HPL.out).load rfl)
      | (refine Gt.ok_call (f := 20) rfl #[pv (n : Int) (t : Int) (k : Int) (e : Int) (r : Int)] (by kernel_rfl) (by simp [*]) ((HG.out w5).mono ?_)
         rintro e w6 ⟨rfl, hb6⟩
         exact ⟨_, rfl, hb6, rfl⟩)
      | (refine Gt.ok_call (f := 16) rfl #[.int .i64 (N : Int), .int .i64 (k : Int)] (by kernel_rfl) (by simp [*]) ((rcols_any N k (by omega) (by omega) (by omega) w5).mono ?_)
         rintro e w6 ⟨rfl, rfl⟩
         exact ⟨_, rfl, Below.refl _ _, by rw [← HC0.out]; rfl⟩)
      | (have z5 := HPB.out.below hg' HPL.out
         have z50 := z5.c0
         have z51 := z5.c1
         have z52 := z5.c2
         refine Gt.ok_run ?_ rfl
         simp only [execOp, *]
         go_simp
         done)
      | (refine Gt.ok_run ?_ rfl
         simp only [execOp, resolve, List.map_toArray, List.map_cons, List.map_nil, *]
         go_simp
         done)
      | (exact ⟨fun h => absurd (show Value.bool true = Value.bool false from h.symm.trans (by assumption)) (by intro h; cases h), fun _ => trivial⟩)
      | (exact ⟨fun h => absurd (show Value.bool false = Value.bool true from h.symm.trans (by assumption)) (by intro h; cases h), fun _ => trivial⟩))
  · intro a w5 hg
    have hg' : Below w1.heap.size w1 w5 := hg
    simp only [Gt.Pre, Gt.tys, List.getD_cons_zero, List.getD_cons_succ, Gt.Is]
    intro h0 h1 h2 h3 h4 h5 h6 h7 h8 h9 h10 h11 h12 h13 h14 h15 h16 h17 h18 h19 h20 h21 h22 h23 h24 h25
    show KK _ _
    refine hKK _ _ ?_
    simp only [Gt.puts, List.foldl_cons, List.foldl_nil, h0, h1, h2, h3, h4, h5, h6, h7, h8, h9, h10, h11, h12, h13, h14, h15, h16, h17, h18, h19, h20, h21, h22, h23, h24, h25]
    simp only [Act.put, List.setIfInBounds_toArray, List.set_cons_zero, List.set_cons_succ]
    have HB5 := Lib.hid (HB1.out.trans (hg'.mono HB1.out.size))
    clear h0 h1 h2 h3 h4 h5 h6 h7 h8 h9 h10 h11 h12 h13 h14 h15 h16 h17 h18 h19 h20 h21 h22 h23 h24 h25
    have HBP := Lib.hid hg'
    have HI1_ := Lib.hid ((HI1.out.below HB5.out).more HB5.out.size)
    have HI2_ := Lib.hid ((HI2.out.below HB5.out).more HB5.out.size)
    clear hg' hg
    obtain ⟨w5_, hw5⟩ : ∃ w', w' = w5 := ⟨_, rfl⟩
    rw [← hw5] at HB5 HBP HI1_ HI2_ ⊢
    clear hw5
    go_wp2
    rename_i K3 hK3
    refine Gt.regionA [Gt.Is (pv (n : Int) (t : Int) (k : Int) (e : Int) (r : Int)), Gt.Is (pv (n : Int) (t : Int) (k : Int) (e : Int) (r : Int)), Gt.Is (.slice A1 N c1), Gt.Is (.slice A2 M c2), MIs C (polL n k t l1 l2), MIs n (shRow (polL n k t l1 l2) C), MIs n (shRow (polL n k t l1 l2) C)] 152
      [⟨[], [5], none⟩, ⟨[], [5], none⟩, ⟨[], [1], none⟩, ⟨[], [2], none⟩, ⟨[(1, 48), (2, 49), (3, 50)], [], none⟩, ⟨[(0, 47), (4, 51)], [], none⟩, ⟨[(5, 52)], [], none⟩]
      [(0, 47), (1, 48), (2, 49), (3, 50), (4, 51), (5, 52), (6, 11)] (by kernel_rfl) (by kernel_rfl) (by kernel_rfl) (by kernel_rfl) ?_ ?_ ?_
    · simp only [Gt.Monos]
      repeat' apply And.intro
      all_goals (first | exact trivial | exact Gt.Is.mono _ | exact MIs.mono _ _)
    · simp only [Gt.Obs]
      repeat' apply And.intro
      all_goals try exact trivial
      all_goals (
        intro a w5 hg
        have hg' : Below w5_.heap.size w5_ w5 := hg
        simp only [Gt.Pre, Gt.Kept, Gt.Guarded, Gt.tys, List.getD_cons_zero, List.getD_cons_succ, Gt.Is, Nat.zero_add, Nat.reduceAdd]
        intros
        try (refine ⟨fun _ => ?_, fun hne => absurd (by assumption) hne⟩))
      all_goals (first
        | exact Gt.ok_move rfl (by assumption)
        | exact Gt.ok_assign rfl (by assumption)
        | exact Gt.ok_pick rfl (by assumption) (by rw [if_pos rfl]; assumption)
        | (exact Gt.ok_load rfl (by assumption) (HPB.out.below (HBP.out.trans (hg'.mono HBP.out.size)) HPL.out).load rfl)
        | (refine Gt.ok_call (f := 22) rfl #[pv (n : Int) (t : Int) (k : Int) (e : Int) (r : Int), .slice A1 N c1, .slice A2 M c2] (by kernel_rfl) (by simp [*] <;> rfl) ((rpolys_any n t k e r ht hk hnk (by omega) A1 A2 c1 c2 N M l1 l2 HN.out HM.out w5 ((HI1_.out.below hg').more hg'.size) ((HI2_.out.below hg').more hg'.size) C HC0.out HLE.out (by omega)).mono ?_)
           rintro e w6 ⟨A6, c6, pa6, cp6, rfl, hM6, hb6⟩
           exact ⟨_, rfl, hb6, A6, c6, pa6, cp6, rfl, hM6⟩)
        | (obtain ⟨A6, c6, pa6, cp6, hv6, hM6⟩ : MIs C (polL n k t l1 l2) (a.eval (.tmp 51)) w5 := by assumption
           refine Gt.ok_call (f := 21) rfl #[pv (n : Int) (t : Int) (k : Int) (e : Int) (r : Int), .slice A6 C c6] (by kernel_rfl) (by simp [*] <;> rfl) ((rshares_any n t k e r (by omega) A6 c6 C pa6 cp6 (polL n k t l1 l2) w5 hM6 (by omega) (fun i hi => by have := polL_dg (n := n) (k := k) (d := l1) HLE.out hi; omega)).mono ?_)
           rintro e w6 ⟨A7, c7, pa7, cp7, rfl, hM7, hb7⟩
           exact ⟨_, rfl, hb7, A7, c7, pa7, cp7, rfl, hM7⟩))
    · intro a w5 hg
      have hg' : Below w5_.heap.size w5_ w5 := hg
      simp only [Gt.Pre, Gt.tys, List.getD_cons_zero, List.getD_cons_succ, Gt.Is]
      intro h0 h1 h2 h3 h4 h5 h6
      show K3 _ _
      refine hK3 _ _ ?_
      obtain ⟨As, cs, ps, qs, h6, hMS⟩ := h6
      obtain ⟨_, _, _, _, h4, _⟩ := h4
      obtain ⟨_, _, _, _, h5, _⟩ := h5
      simp only [Gt.puts, List.foldl_cons, List.foldl_nil, h0, h1, h2, h3, h4, h5, h6]
      simp only [Act.put, List.setIfInBounds_toArray, List.set_cons_zero, List.set_cons_succ]
      have HBL_ := Lib.hid (HB5.out.trans (hg'.mono HB5.out.size))
      have HPL3 := Lib.hid (HPB.out.below (HBP.out.trans (hg'.mono HBP.out.size)) HPL.out)
      have HMS := Lib.hid hMS
      clear h0 h1 h2 h3 h4 h5 h6 hMS
      obtain ⟨wL, hwL⟩ : ∃ wL, wL = w5 := ⟨_, rfl⟩
      rw [← hwL] at HBL_ HPL3 HMS ⊢
      clear hwL hg' hg
      have hcapS := HMS.out.cap
      go_wp2
      go_loopw [12, 13, 14, 15] (OcO wL n (trnB n t k l1 l2 C (tuL (shRow (polL n k t l1 l2) C) R4 l4)) z3 (tuL (shRow (polL n k t l1 l2) C) R4 l4)) (fun _ _ _ i _ => n - (intOf i).toNat)
      case atStart => exact ⟨0, none, 0, none, 0, fun _ => none, fun _ => 0, Nat.zero_le _, rfl, rfl, rfl, Ocs.start wL (Nat.le_refl _) _ _ _ _, Below.refl _ _⟩
      case round =>
        obtain ⟨q, Af, cf, Aw, cw, pa, cp, hq, rfl, rfl, rfl, hoc, hbel⟩ := hrel
        obtain ⟨Av, cv, rfl, hcv, _⟩ := hoc.s.shape
        have z0 := (HPL3.out.below hbel HPL3.out.lt).c0
        by_cases hqn : q < n
        · have hqi : (q : Int) < (n : Int) := by omega
          by_cases hqz : q < z3.length
          · cases hzv : z3[q] with
            | true =>
              have hz3q : z3[q]? = some true := by rw [List.getElem?_eq_getElem hqz, hzv]
              clear hzv
              have HBW := Lib.hid (HBL_.out.trans (hbel.mono HBL_.out.size))
              have HKP := Lib.hid (show kpB z3 q = false from by unfold kpB; rw [List.getD_eq_getElem?_getD, hz3q]; rfl)
              obtain ⟨b3, o3, hA3, hb3, hc3_⟩ := (HI3.out.below HBW.out).sl q true hz3q
              subst hA3
              have hqzi : (q : Int) < (X3 : Int) := by rw [HX3.out]; omega
              have hqzg : ¬ ((X3 : Int) ≤ (q : Int)) := by rw [HX3.out]; omega
              have hqX : q < X3 := by omega
              have HOC := Lib.hid hoc
              have HBQ := Lib.hid hbel
              clear hoc hbel hz3q hb3
              go_wp2
              go_roundw
              case rel => exact ⟨q + 1, Af, cf, Aw, cw, pa, cp, by omega, by go_num, by rw [frL_no HKP.out], by rw [wtL_no HKP.out], by rw [frL_no HKP.out, wtL_no HKP.out]; exact HOC.out, HBQ.out⟩
              case measure => simp [intOf]; omega
            | false =>
              have hz3q : z3[q]? = some false := by rw [List.getElem?_eq_getElem hqz, hzv]
              clear hzv
              have HBW := Lib.hid (HBL_.out.trans (hbel.mono HBL_.out.size))
              have HKP := Lib.hid (show kpB z3 q = true from by unfold kpB; rw [List.getD_eq_getElem?_getD, hz3q]; rfl)
              obtain ⟨b3, o3, hA3, hb3, hc3_⟩ := (HI3.out.below HBW.out).sl q false hz3q
              subst hA3
              have hqzi : (q : Int) < (X3 : Int) := by rw [HX3.out]; omega
              have hqzg : ¬ ((X3 : Int) ≤ (q : Int)) := by rw [HX3.out]; omega
              have hqX : q < X3 := by omega
              clear hz3q hb3
              by_cases hq4 : q < R4
              · have hq4i : (q : Int) < (R4 : Int) := by omega
                have hHS := (HMS.out.below hbel).rd q hqn
                obtain ⟨bs, os, hAs, hbs, hcs, his⟩ := hHS
                subst hAs
                rw [shRow_len] at hcs
                obtain ⟨AS, hAS⟩ : ∃ A, A = ps q := ⟨_, rfl⟩
                obtain ⟨cS, hcS⟩ : ∃ c, c = qs q := ⟨_, rfl⟩
                rw [← hAS, ← hcS] at his hcs
                obtain ⟨σ, hσ⟩ : ∃ σ, σ = str ((shRow (polL n k t l1 l2) C) q) := ⟨_, rfl⟩
                obtain ⟨τ, hτ⟩ : ∃ τ, τ = str ((tuL (shRow (polL n k t l1 l2) C) R4 l4) q) := ⟨_, rfl⟩
                obtain ⟨df, hdfe⟩ : ∃ df, df = (trnB n t k l1 l2 C (tuL (shRow (polL n k t l1 l2) C) R4 l4)) q := ⟨_, rfl⟩
                have HTB := Lib.hid (tuL_bb (S := (shRow (polL n k t l1 l2) C)) (R := R4) (l := l4) (h := q) his.bb (fun i hi => HMT.out.bb hi))
                have hst : (τ.toList == σ.toList) = !df := by
                  rw [hτ, hσ, hdfe, str_same HTB.out his.bb]
                  unfold trnB
                  by_cases e' : (tuL (shRow (polL n k t l1 l2) C) R4 l4) q = (shRow (polL n k t l1 l2) C) q
                  · rw [decide_eq_true e', decide_eq_false (fun h => h e')]; rfl
                  · rw [decide_eq_false e', decide_eq_true e']; rfl
                have HTG := Lib.hid hτ
                have HSG := Lib.hid hσ
                have HLQ := Lib.hid (show ((tuL (shRow (polL n k t l1 l2) C) R4 l4) q).length = C by rw [tuL_len, shRow_len])
                obtain ⟨b4, o4, hA4, hb4, hc4, hi4⟩ := (HMT.out.below (HBL_.out.trans (hbel.mono HBL_.out.size))).rd q hq4
                subst hA4
                obtain ⟨A4q, hA4q⟩ : ∃ A, A = P4 q := ⟨_, rfl⟩
                obtain ⟨c4q, hc4q⟩ : ∃ c, c = n4 q := ⟨_, rfl⟩
                obtain ⟨m4, hm4⟩ : ∃ m, m = (l4 q).length := ⟨_, rfl⟩
                rw [← hA4q, ← hc4q] at hi4 hc4
                rw [← hm4] at hc4
                have htu : (tuL (shRow (polL n k t l1 l2) C) R4 l4) q = xorL ((shRow (polL n k t l1 l2) C) q) (l4 q) := by unfold tuL; rw [if_pos hq4]
                have HXO := Lib.hid (rxor_any AS A4q cS c4q C m4 ((shRow (polL n k t l1 l2) C) q) (l4 q) (by rw [shRow_len]) hm4 wr (his.more hbel.size) (hi4.more (Nat.le_trans HBL_.out.size hbel.size)) (by omega))
                have HIS0 := Lib.hid his
                have HOC0 := Lib.hid hoc
                have HBQ0 := Lib.hid hbel
                have HCS0 := Lib.hid hcs
                have hq4c : q < R4 := hq4
                clear hσ hτ his hoc hbel hAS hcS hi4 hA4q hc4q hm4
                go_wp2_with fail
                refine HXO.out.mono ?_
                rintro en w6 ⟨Aq, cq, rfl, ho6, hb6⟩
                rw [← htu] at ho6
                have HO6 := Lib.hid ho6
                have HIS := Lib.hid (HIS0.out.below (hb6.mono HBQ0.out.size))
                have HSM : Hid (wL.heap.size ≤ w6.heap.size) := Lib.hid (Nat.le_trans HBQ0.out.size hb6.size)
                have HIQ : Hid (In w6 w6.heap.size Aq cq ((tuL (shRow (polL n k t l1 l2) C) R4 l4) q)) := Lib.hid ho6.inn
                have HRQ : Hid (∀ W5, Below w6.heap.size w6 W5 → In W5 wL.heap.size Aq cq ((tuL (shRow (polL n k t l1 l2) C) R4 l4) q) ∨ Gw.Own W5 wL.heap.size 5 Aq cq ((tuL (shRow (polL n k t l1 l2) C) R4 l4) q)) := Lib.hid (fun W5 h5 => .inr ((HO6.out.kept h5).base HBQ0.out.size))
                have HOC := Lib.hid (HOC0.out.grow hb6)
                have HBQ := Lib.hid (HBQ0.out.trans (hb6.mono HBQ0.out.size))
                have HCS := Lib.hid ((hb6.cell (p := ⟨bs, os + q, none⟩) (cell_lt HCS0.out)).trans HCS0.out)
                have HBL := Lib.hid (Nat.lt_of_lt_of_le (cell_lt HCS0.out) hb6.size)
                have hzz := HBQ.out.size
                clear ho6 hb6 htu hcs z0 hc4 HXO hc3_
                go_wp2
                rename_i KK hKK
                refine Gt.regionA [Gt.Is (.slice Aq C cq), Gt.Is (.string τ), Gt.Is (.slice (some ⟨bs, os, none⟩) n cs), Gt.Is (.int .i64 (q : Int)), Gt.Is (.pointer (some ⟨bs, os + q, none⟩)), Gt.Is (.slice AS C cS), Gt.Is (.string σ), Gt.Is (.bool df)] 152
                  [⟨[], [16], none⟩, ⟨[(0, 83)], [], none⟩, ⟨[], [11], none⟩, ⟨[], [15], none⟩, ⟨[(2, 85), (3, 86)], [], none⟩, ⟨[(4, 87)], [], none⟩, ⟨[(5, 88)], [], none⟩, ⟨[(1, 84), (6, 89)], [], none⟩]
                  [(0, 83), (1, 84), (2, 85), (3, 86), (4, 87), (5, 88), (6, 89), (7, 90)] (by kernel_rfl) (by kernel_rfl) (by kernel_rfl) (by kernel_rfl) ?_ ?_ ?_
                · simp only [Gt.Monos]
                  repeat' apply And.intro
                  all_goals (first | exact trivial | exact Gt.Is.mono _)
                · simp only [Gt.Obs]
                  repeat' apply And.intro
                  all_goals try exact trivial
                  all_goals (
                    intro a w5 hg
                    have hg' : Below w6.heap.size w6 w5 := hg
                    simp only [Gt.Pre, Gt.Kept, Gt.Guarded, Gt.tys, List.getD_cons_zero, List.getD_cons_succ, Gt.Is, Nat.zero_add, Nat.reduceAdd]
                    intros
                    try (refine ⟨fun _ => ?_, fun hne => absurd (by assumption) hne⟩))
                  all_goals (first
                    | exact Gt.ok_move rfl (by assumption)
                    | exact Gt.ok_assign rfl (by assumption)
                    | exact Gt.ok_pick rfl (by assumption) (by rw [if_pos rfl]; assumption)
                    | (have k5 := conv_sl (P := Try.prog) ((HIQ.out.below hg')).sl Try.underlying36 Try.underlying5 Try.underlying9 cq
                       rw [HLQ.out, ← HTG.out] at k5
                       exact Gt.ok_convert rfl (by assumption) k5 rfl)
                    | (have k5 := conv_sl (P := Try.prog) (((HIS.out.more HSM.out).below hg')).sl Try.underlying36 Try.underlying5 Try.underlying9 cS
                       rw [shRow_len, ← HSG.out] at k5
                       exact Gt.ok_convert rfl (by assumption) k5 rfl)
                    | (have k5 := (hg'.cell (p := ⟨bs, os + q, none⟩) HBL.out).trans HCS.out
                       refine Gt.ok_run ?_ rfl
                       simp only [execOp, *]
                       go_simp
                       done))
                · intro a w5 hg
                  have hg' : Below w6.heap.size w6 w5 := hg
                  simp only [Gt.Pre, Gt.tys, List.getD_cons_zero, List.getD_cons_succ, Gt.Is]
                  intro h0 h1 h2 h3 h4 h5 h6 h7
                  show KK _ _
                  refine hKK _ _ ?_
                  simp only [Gt.puts, List.foldl_cons, List.foldl_nil, h0, h1, h2, h3, h4, h5, h6, h7]
                  simp only [Act.put, List.setIfInBounds_toArray, List.set_cons_zero, List.set_cons_succ]
                  have HO5 := Lib.hid (HOC.out.grow hg')
                  have HB5 := Lib.hid (HBQ.out.trans (hg'.mono HBQ.out.size))
                  have HROW : Hid (In w5 wL.heap.size Aq cq ((tuL (shRow (polL n k t l1 l2) C) R4 l4) q) ∨ Gw.Own w5 wL.heap.size 5 Aq cq ((tuL (shRow (polL n k t l1 l2) C) R4 l4) q)) := Lib.hid (HRQ.out w5 hg')
                  clear h0 h1 h2 h3 h4 h5 h6 h7
                  obtain ⟨w8, hw8⟩ : ∃ w8, w8 = w5 := ⟨_, rfl⟩
                  rw [← hw8] at HO5 HB5 HROW ⊢
                  clear hw8 hg' hg
                  cases hdf : df with
                  | true =>
                    have HDF := Lib.hid (hdfe.symm.trans hdf)
                    clear hdf
                    have HWT := Lib.hid (wtL_yes HKP.out HDF.out)
                    have hlf := frL_len z3 q
                    have HROF := Lib.hid (rOf_at (T := (tuL (shRow (polL n k t l1 l2) C) R4 l4)) HKP.out hqn)
                    have HLR := Lib.hid (show ((tuL (shRow (polL n k t l1 l2) C) R4 l4) q).length = C by rw [tuL_len, shRow_len])
                    have hlw := Nat.le_trans (wtL_len (trnB n t k l1 l2 C (tuL (shRow (polL n k t l1 l2) C) R4 l4)) z3 q) hlf
                    have HO5x := Lib.hid (HO5.out.grow (X := w8.alloc (.cells #[.int .i64 (q : Int)] 3)) ((Below.refl _ w8).alloc (Nat.le_refl _) _))
                    have HO5s := HO5.out.bs.2
                    go_wp2_with (first
                      | (at_builtin
                         refine wpList_append_own_at _ rfl (.tmp 91) (.tmp 93) 24 rfl wL.heap.size 3 i0 (.int .i64 0) 1 8 Try.underlying24 hi0 hz0 hz1 hz2 rfl (by decide) (.slice Aw (wtL (trnB n t k l1 l2 C (tuL (shRow (polL n k t l1 l2) C) R4 l4)) z3 q).length cw) (wtL (trnB n t k l1 l2 C (tuL (shRow (polL n k t l1 l2) C) R4 l4)) z3 q).length (intv (wtL (trnB n t k l1 l2 C (tuL (shRow (polL n k t l1 l2) C) R4 l4)) z3 q)) rfl HO5x.out.w ⟨w8.heap.size, 0, none⟩ 1 1 [.int .i64 (q : Int)] rfl rfl (fun j u hj => by
                           match j, hj with
                           | 0, hj => simp at hj; subst hj; exact cell_new w8 _ _) (fun u hu => by simp at hu; subst hu; rfl) (by simp only [maxLen]; omega) (by omega) (by rw [World.size_alloc]; have := HO5.out.bs.2; omega) ?_
                         intro v' w9 hown hgr _ hat
                         obtain ⟨A9, c9, rfl, hO⟩ := HO5x.out.want (by decide) (by decide) hown hgr hat
                         have HB9 := Lib.hid ((HB5.out.trans (((Below.refl _ w8).alloc (Nat.le_refl _) _).mono HB5.out.size)).grown hgr (by rw [World.size_alloc]; have := HO5.out.bs.2; omega) (fun r hr => (owns_blk HO5x.out.w hr).1))
                         have HR9 : Hid (In w9 wL.heap.size Aq cq ((tuL (shRow (polL n k t l1 l2) C) R4 l4) q) ∨ Gw.Own w9 wL.heap.size 5 Aq cq ((tuL (shRow (polL n k t l1 l2) C) R4 l4) q)) := Lib.hid (by
                           rcases HROW.out with h | h
                           · exact .inl (h.below ⟨HB9.out.os.trans HB5.out.os.symm, HB9.out.tape.trans HB5.out.tape.symm, HB9.out.output.trans HB5.out.output.symm, by have := hgr.size; rw [World.size_alloc] at this; omega, fun b hb => (HB9.out.block b hb).trans (HB5.out.block b hb).symm⟩)
                           · exact .inr (⟨owns_other (h.alloc _).1 HO5x.out.w (by decide) hgr, h.2⟩))
                         have HO9 := Lib.hid hO
                         have HO9x := Lib.hid (HO9.out.grow (X := w9.alloc (.cells #[.int .i64 (q : Int)] 3)) ((Below.refl _ w9).alloc (Nat.le_refl _) _))
                         have HO9s := HO9.out.bs.2
                         clear hown hgr hat hO)
                      | (at_builtin
                         refine wpList_append_own_at _ rfl (.tmp 95) (.tmp 97) 24 rfl wL.heap.size 3 i0 (.int .i64 0) 1 8 Try.underlying24 hi0 hz0 hz1 hz2 rfl (by decide) (.slice Af (frL z3 q).length cf) (frL z3 q).length (intv (frL z3 q)) rfl HO9x.out.f ⟨w9.heap.size, 0, none⟩ 1 1 [.int .i64 (q : Int)] rfl rfl (fun j u hj => by
                           match j, hj with
                           | 0, hj => simp at hj; subst hj; exact cell_new w9 _ _) (fun u hu => by simp at hu; subst hu; rfl) (by simp only [maxLen]; omega) (by omega) (by rw [World.size_alloc]; have := HO9.out.bs.2; omega) ?_
                         intro v' w11 hown hgr _ hat
                         obtain ⟨A11, c11, rfl, hO⟩ := HO9x.out.from_ (by decide) (by decide) hown hgr hat
                         have HB11 := Lib.hid ((HB9.out.trans (((Below.refl _ w9).alloc (Nat.le_refl _) _).mono HB9.out.size)).grown hgr (by rw [World.size_alloc]; have := HO9.out.bs.2; omega) (fun r hr => (owns_blk HO9x.out.f hr).1))
                         have HR11 : Hid (In w11 wL.heap.size Aq cq ((tuL (shRow (polL n k t l1 l2) C) R4 l4) q) ∨ Gw.Own w11 wL.heap.size 5 Aq cq ((tuL (shRow (polL n k t l1 l2) C) R4 l4) q)) := Lib.hid (by
                           rcases HR9.out with h | h
                           · exact .inl (h.below ⟨HB11.out.os.trans HB9.out.os.symm, HB11.out.tape.trans HB9.out.tape.symm, HB11.out.output.trans HB9.out.output.symm, by have := hgr.size; rw [World.size_alloc] at this; omega, fun b hb => (HB11.out.block b hb).trans (HB9.out.block b hb).symm⟩)
                           · exact .inr (⟨owns_other (h.alloc _).1 HO9x.out.f (by decide) hgr, h.2⟩))
                         have HO11 := Lib.hid hO
                         have HO11x := Lib.hid (HO11.out.grow (X := w11.alloc (.cells #[.slice Aq C cq] 36)) ((Below.refl _ w11).alloc (Nat.le_refl _) _))
                         have HO11s := HO11.out.bs.2
                         clear hown hgr hat hO)
                      | (at_builtin
                         refine wpList_append_own _ rfl (.tmp 99) (.tmp 101) 25 rfl wL.heap.size 36 i1 (.slice none 0 0) 1 24 Try.underlying25 hj0 hj1 hj2 hj3 rfl (by decide) (.slice Av (frL z3 q).length cv) (frL z3 q).length (rvl pa cp (rOf (frL z3 n) (tuL (shRow (polL n k t l1 l2) C) R4 l4)) (frL z3 q).length) rfl HO11x.out.s.own ⟨w11.heap.size, 0, none⟩ 1 1 [.slice Aq C cq] rfl rfl (fun j u hj => by
                           match j, hj with
                           | 0, hj => simp at hj; subst hj; exact cell_new w11 _ _) (fun u hu => by simp at hu; subst hu; rfl) (by simp only [maxLen]; omega) (by omega) (by rw [World.size_alloc]; have := HO11.out.bs.2; omega) ?_
                         intro v'' w12 hown12 hgr12 _
                         have HR12 : Hid (In w12 wL.heap.size Aq cq (rOf (frL z3 n) (tuL (shRow (polL n k t l1 l2) C) R4 l4) (frL z3 q).length) ∨ Gw.Own w12 wL.heap.size 5 Aq cq (rOf (frL z3 n) (tuL (shRow (polL n k t l1 l2) C) R4 l4) (frL z3 q).length)) := Lib.hid (by
                           rw [HROF.out]
                           rcases HR11.out with h | h
                           · exact .inl ((h.below (((Below.refl _ w11).alloc (Nat.le_refl _) _).mono HO11.out.bs.2)).below (((Below.refl _ _).grown hgr12 (by rw [World.size_alloc]; have := HO11.out.bs.2; omega) (fun r hr => (owns_blk HO11x.out.s.own hr).1))))
                           · exact .inr (⟨owns_other (h.alloc _).1 HO11x.out.s.own (by decide) hgr12, h.2⟩))
                         have HO12 := Lib.hid (HO11x.out.share (by decide) (by decide) HR12.out (by rw [HROF.out, HLR.out]; exact hown12) hgr12)
                         have HB12 := Lib.hid ((HB11.out.trans (((Below.refl _ w11).alloc (Nat.le_refl _) _).mono HB11.out.size)).grown hgr12 (by rw [World.size_alloc]; have := HO11.out.bs.2; omega) (fun r hr => (owns_blk HO11x.out.s.own hr).1))
                         clear hown12 hgr12)
                      | fail)
                    go_roundw
                    case rel => exact ⟨q + 1, A11, c11, A9, c9, _, _, by omega, by go_num, by rw [frL_yes HKP.out, List.length_append]; rfl, by rw [HWT.out, List.length_append]; rfl, by rw [frL_yes HKP.out, HWT.out, List.length_append]; exact HO12.out, HB12.out⟩
                    case measure => simp [intOf]; omega
                  | false =>
                    have HDF := Lib.hid (hdfe.symm.trans hdf)
                    clear hdf
                    have HWT := Lib.hid (wtL_same HKP.out HDF.out)
                    have hlf := frL_len z3 q
                    have HROF := Lib.hid (rOf_at (T := (tuL (shRow (polL n k t l1 l2) C) R4 l4)) HKP.out hqn)
                    have HLR := Lib.hid (show ((tuL (shRow (polL n k t l1 l2) C) R4 l4) q).length = C by rw [tuL_len, shRow_len])
                    have hlw := Nat.le_trans (wtL_len (trnB n t k l1 l2 C (tuL (shRow (polL n k t l1 l2) C) R4 l4)) z3 q) hlf
                    have HO5x := Lib.hid (HO5.out.grow (X := w8.alloc (.cells #[.int .i64 (q : Int)] 3)) ((Below.refl _ w8).alloc (Nat.le_refl _) _))
                    have HO5s := HO5.out.bs.2
                    go_wp2_with (first
                      | (at_builtin
                         refine wpList_append_own_at _ rfl (.tmp 95) (.tmp 97) 24 rfl wL.heap.size 3 i0 (.int .i64 0) 1 8 Try.underlying24 hi0 hz0 hz1 hz2 rfl (by decide) (.slice Af (frL z3 q).length cf) (frL z3 q).length (intv (frL z3 q)) rfl HO5x.out.f ⟨w8.heap.size, 0, none⟩ 1 1 [.int .i64 (q : Int)] rfl rfl (fun j u hj => by
                           match j, hj with
                           | 0, hj => simp at hj; subst hj; exact cell_new w8 _ _) (fun u hu => by simp at hu; subst hu; rfl) (by simp only [maxLen]; omega) (by omega) (by rw [World.size_alloc]; have := HO5.out.bs.2; omega) ?_
                         intro v' w11 hown hgr _ hat
                         obtain ⟨A11, c11, rfl, hO⟩ := HO5x.out.from_ (by decide) (by decide) hown hgr hat
                         have HB11 := Lib.hid ((HB5.out.trans (((Below.refl _ w8).alloc (Nat.le_refl _) _).mono HB5.out.size)).grown hgr (by rw [World.size_alloc]; have := HO5.out.bs.2; omega) (fun r hr => (owns_blk HO5x.out.f hr).1))
                         have HR11 : Hid (In w11 wL.heap.size Aq cq ((tuL (shRow (polL n k t l1 l2) C) R4 l4) q) ∨ Gw.Own w11 wL.heap.size 5 Aq cq ((tuL (shRow (polL n k t l1 l2) C) R4 l4) q)) := Lib.hid (by
                           rcases HROW.out with h | h
                           · exact .inl (h.below ⟨HB11.out.os.trans HB5.out.os.symm, HB11.out.tape.trans HB5.out.tape.symm, HB11.out.output.trans HB5.out.output.symm, by have := hgr.size; rw [World.size_alloc] at this; omega, fun b hb => (HB11.out.block b hb).trans (HB5.out.block b hb).symm⟩)
                           · exact .inr (⟨owns_other (h.alloc _).1 HO5x.out.f (by decide) hgr, h.2⟩))
                         have HO11 := Lib.hid hO
                         have HO11x := Lib.hid (HO11.out.grow (X := w11.alloc (.cells #[.slice Aq C cq] 36)) ((Below.refl _ w11).alloc (Nat.le_refl _) _))
                         have HO11s := HO11.out.bs.2
                         clear hown hgr hat hO)
                      | (at_builtin
                         refine wpList_append_own _ rfl (.tmp 99) (.tmp 101) 25 rfl wL.heap.size 36 i1 (.slice none 0 0) 1 24 Try.underlying25 hj0 hj1 hj2 hj3 rfl (by decide) (.slice Av (frL z3 q).length cv) (frL z3 q).length (rvl pa cp (rOf (frL z3 n) (tuL (shRow (polL n k t l1 l2) C) R4 l4)) (frL z3 q).length) rfl HO11x.out.s.own ⟨w11.heap.size, 0, none⟩ 1 1 [.slice Aq C cq] rfl rfl (fun j u hj => by
                           match j, hj with
                           | 0, hj => simp at hj; subst hj; exact cell_new w11 _ _) (fun u hu => by simp at hu; subst hu; rfl) (by simp only [maxLen]; omega) (by omega) (by rw [World.size_alloc]; have := HO11.out.bs.2; omega) ?_
                         intro v'' w12 hown12 hgr12 _
                         have HR12 : Hid (In w12 wL.heap.size Aq cq (rOf (frL z3 n) (tuL (shRow (polL n k t l1 l2) C) R4 l4) (frL z3 q).length) ∨ Gw.Own w12 wL.heap.size 5 Aq cq (rOf (frL z3 n) (tuL (shRow (polL n k t l1 l2) C) R4 l4) (frL z3 q).length)) := Lib.hid (by
                           rw [HROF.out]
                           rcases HR11.out with h | h
                           · exact .inl ((h.below (((Below.refl _ w11).alloc (Nat.le_refl _) _).mono HO11.out.bs.2)).below (((Below.refl _ _).grown hgr12 (by rw [World.size_alloc]; have := HO11.out.bs.2; omega) (fun r hr => (owns_blk HO11x.out.s.own hr).1))))
                           · exact .inr (⟨owns_other (h.alloc _).1 HO11x.out.s.own (by decide) hgr12, h.2⟩))
                         have HO12 := Lib.hid (HO11x.out.share (by decide) (by decide) HR12.out (by rw [HROF.out, HLR.out]; exact hown12) hgr12)
                         have HB12 := Lib.hid ((HB11.out.trans (((Below.refl _ w11).alloc (Nat.le_refl _) _).mono HB11.out.size)).grown hgr12 (by rw [World.size_alloc]; have := HO11.out.bs.2; omega) (fun r hr => (owns_blk HO11x.out.s.own hr).1))
                         clear hown12 hgr12)
                      | fail)
                    go_roundw
                    case rel => exact ⟨q + 1, A11, c11, Aw, cw, _, _, by omega, by go_num, by rw [frL_yes HKP.out, List.length_append]; rfl, by rw [HWT.out], by rw [frL_yes HKP.out, HWT.out, List.length_append]; exact HO12.out, HB12.out⟩
                    case measure => simp [intOf]; omega
                  
              · have hq4i : ¬ ((q : Int) < (R4 : Int)) := by omega
                have hHS := (HMS.out.below hbel).rd q hqn
                obtain ⟨bs, os, hAs, hbs, hcs, his⟩ := hHS
                subst hAs
                rw [shRow_len] at hcs
                obtain ⟨AS, hAS⟩ : ∃ A, A = ps q := ⟨_, rfl⟩
                obtain ⟨cS, hcS⟩ : ∃ c, c = qs q := ⟨_, rfl⟩
                rw [← hAS, ← hcS] at his hcs
                obtain ⟨σ, hσ⟩ : ∃ σ, σ = str ((shRow (polL n k t l1 l2) C) q) := ⟨_, rfl⟩
                obtain ⟨τ, hτ⟩ : ∃ τ, τ = str ((tuL (shRow (polL n k t l1 l2) C) R4 l4) q) := ⟨_, rfl⟩
                obtain ⟨df, hdfe⟩ : ∃ df, df = (trnB n t k l1 l2 C (tuL (shRow (polL n k t l1 l2) C) R4 l4)) q := ⟨_, rfl⟩
                have HTB := Lib.hid (tuL_bb (S := (shRow (polL n k t l1 l2) C)) (R := R4) (l := l4) (h := q) his.bb (fun i hi => HMT.out.bb hi))
                have hst : (τ.toList == σ.toList) = !df := by
                  rw [hτ, hσ, hdfe, str_same HTB.out his.bb]
                  unfold trnB
                  by_cases e' : (tuL (shRow (polL n k t l1 l2) C) R4 l4) q = (shRow (polL n k t l1 l2) C) q
                  · rw [decide_eq_true e', decide_eq_false (fun h => h e')]; rfl
                  · rw [decide_eq_false e', decide_eq_true e']; rfl
                have HTG := Lib.hid hτ
                have HSG := Lib.hid hσ
                have HLQ := Lib.hid (show ((tuL (shRow (polL n k t l1 l2) C) R4 l4) q).length = C by rw [tuL_len, shRow_len])
                obtain ⟨Aq, hAq⟩ : ∃ Aq, Aq = AS := ⟨_, rfl⟩
                obtain ⟨cq, hcq⟩ : ∃ cq, cq = cS := ⟨_, rfl⟩
                have htu : (tuL (shRow (polL n k t l1 l2) C) R4 l4) q = (shRow (polL n k t l1 l2) C) q := by unfold tuL; rw [if_neg hq4]
                have HIS := Lib.hid his
                have HSM : Hid (wL.heap.size ≤ wr.heap.size) := Lib.hid hbel.size
                have HIQ : Hid (In wr wr.heap.size Aq cq ((tuL (shRow (polL n k t l1 l2) C) R4 l4) q)) := Lib.hid (by rw [htu, hAq, hcq]; exact his.more hbel.size)
                have HRQ : Hid (∀ W5, Below wr.heap.size wr W5 → In W5 wL.heap.size Aq cq ((tuL (shRow (polL n k t l1 l2) C) R4 l4) q) ∨ Gw.Own W5 wL.heap.size 5 Aq cq ((tuL (shRow (polL n k t l1 l2) C) R4 l4) q)) := Lib.hid (fun W5 h5 => .inl (by rw [htu, hAq, hcq]; exact his.below (h5.mono hbel.size)))
                have HOC := Lib.hid hoc
                have HBQ := Lib.hid hbel
                have HCS := Lib.hid hcs
                have HBL := Lib.hid (cell_lt hcs)
                clear hσ hτ his hoc hbel htu hAS hcS
                go_wp2
                rw [← hAq, ← hcq]
                clear hcs z0 hAq hcq hc3_
                rename_i KK hKK
                refine Gt.regionA [Gt.Is (.slice Aq C cq), Gt.Is (.string τ), Gt.Is (.slice (some ⟨bs, os, none⟩) n cs), Gt.Is (.int .i64 (q : Int)), Gt.Is (.pointer (some ⟨bs, os + q, none⟩)), Gt.Is (.slice AS C cS), Gt.Is (.string σ), Gt.Is (.bool df)] 152
                  [⟨[], [16], none⟩, ⟨[(0, 83)], [], none⟩, ⟨[], [11], none⟩, ⟨[], [15], none⟩, ⟨[(2, 85), (3, 86)], [], none⟩, ⟨[(4, 87)], [], none⟩, ⟨[(5, 88)], [], none⟩, ⟨[(1, 84), (6, 89)], [], none⟩]
                  [(0, 83), (1, 84), (2, 85), (3, 86), (4, 87), (5, 88), (6, 89), (7, 90)] (by kernel_rfl) (by kernel_rfl) (by kernel_rfl) (by kernel_rfl) ?_ ?_ ?_
                · simp only [Gt.Monos]
                  repeat' apply And.intro
                  all_goals (first | exact trivial | exact Gt.Is.mono _)
                · simp only [Gt.Obs]
                  repeat' apply And.intro
                  all_goals try exact trivial
                  all_goals (
                    intro a w5 hg
                    have hg' : Below wr.heap.size wr w5 := hg
                    simp only [Gt.Pre, Gt.Kept, Gt.Guarded, Gt.tys, List.getD_cons_zero, List.getD_cons_succ, Gt.Is, Nat.zero_add, Nat.reduceAdd]
                    intros
                    try (refine ⟨fun _ => ?_, fun hne => absurd (by assumption) hne⟩))
                  all_goals (first
                    | exact Gt.ok_move rfl (by assumption)
                    | exact Gt.ok_assign rfl (by assumption)
                    | exact Gt.ok_pick rfl (by assumption) (by rw [if_pos rfl]; assumption)
                    | (have k5 := conv_sl (P := Try.prog) ((HIQ.out.below hg')).sl Try.underlying36 Try.underlying5 Try.underlying9 cq
                       rw [HLQ.out, ← HTG.out] at k5
                       exact Gt.ok_convert rfl (by assumption) k5 rfl)
                    | (have k5 := conv_sl (P := Try.prog) (((HIS.out.more HSM.out).below hg')).sl Try.underlying36 Try.underlying5 Try.underlying9 cS
                       rw [shRow_len, ← HSG.out] at k5
                       exact Gt.ok_convert rfl (by assumption) k5 rfl)
                    | (have k5 := (hg'.cell (p := ⟨bs, os + q, none⟩) HBL.out).trans HCS.out
                       refine Gt.ok_run ?_ rfl
                       simp only [execOp, *]
                       go_simp
                       done))
                · intro a w5 hg
                  have hg' : Below wr.heap.size wr w5 := hg
                  simp only [Gt.Pre, Gt.tys, List.getD_cons_zero, List.getD_cons_succ, Gt.Is]
                  intro h0 h1 h2 h3 h4 h5 h6 h7
                  show KK _ _
                  refine hKK _ _ ?_
                  simp only [Gt.puts, List.foldl_cons, List.foldl_nil, h0, h1, h2, h3, h4, h5, h6, h7]
                  simp only [Act.put, List.setIfInBounds_toArray, List.set_cons_zero, List.set_cons_succ]
                  have HO5 := Lib.hid (HOC.out.grow hg')
                  have HB5 := Lib.hid (HBQ.out.trans (hg'.mono HBQ.out.size))
                  have HROW : Hid (In w5 wL.heap.size Aq cq ((tuL (shRow (polL n k t l1 l2) C) R4 l4) q) ∨ Gw.Own w5 wL.heap.size 5 Aq cq ((tuL (shRow (polL n k t l1 l2) C) R4 l4) q)) := Lib.hid (HRQ.out w5 hg')
                  clear h0 h1 h2 h3 h4 h5 h6 h7
                  obtain ⟨w8, hw8⟩ : ∃ w8, w8 = w5 := ⟨_, rfl⟩
                  rw [← hw8] at HO5 HB5 HROW ⊢
                  clear hw8 hg' hg
                  cases hdf : df with
                  | true =>
                    have HDF := Lib.hid (hdfe.symm.trans hdf)
                    clear hdf
                    have HWT := Lib.hid (wtL_yes HKP.out HDF.out)
                    have hlf := frL_len z3 q
                    have HROF := Lib.hid (rOf_at (T := (tuL (shRow (polL n k t l1 l2) C) R4 l4)) HKP.out hqn)
                    have HLR := Lib.hid (show ((tuL (shRow (polL n k t l1 l2) C) R4 l4) q).length = C by rw [tuL_len, shRow_len])
                    have hlw := Nat.le_trans (wtL_len (trnB n t k l1 l2 C (tuL (shRow (polL n k t l1 l2) C) R4 l4)) z3 q) hlf
                    have HO5x := Lib.hid (HO5.out.grow (X := w8.alloc (.cells #[.int .i64 (q : Int)] 3)) ((Below.refl _ w8).alloc (Nat.le_refl _) _))
                    have HO5s := HO5.out.bs.2
                    go_wp2_with (first
                      | (at_builtin
                         refine wpList_append_own_at _ rfl (.tmp 91) (.tmp 93) 24 rfl wL.heap.size 3 i0 (.int .i64 0) 1 8 Try.underlying24 hi0 hz0 hz1 hz2 rfl (by decide) (.slice Aw (wtL (trnB n t k l1 l2 C (tuL (shRow (polL n k t l1 l2) C) R4 l4)) z3 q).length cw) (wtL (trnB n t k l1 l2 C (tuL (shRow (polL n k t l1 l2) C) R4 l4)) z3 q).length (intv (wtL (trnB n t k l1 l2 C (tuL (shRow (polL n k t l1 l2) C) R4 l4)) z3 q)) rfl HO5x.out.w ⟨w8.heap.size, 0, none⟩ 1 1 [.int .i64 (q : Int)] rfl rfl (fun j u hj => by
                           match j, hj with
                           | 0, hj => simp at hj; subst hj; exact cell_new w8 _ _) (fun u hu => by simp at hu; subst hu; rfl) (by simp only [maxLen]; omega) (by omega) (by rw [World.size_alloc]; have := HO5.out.bs.2; omega) ?_
                         intro v' w9 hown hgr _ hat
                         obtain ⟨A9, c9, rfl, hO⟩ := HO5x.out.want (by decide) (by decide) hown hgr hat
                         have HB9 := Lib.hid ((HB5.out.trans (((Below.refl _ w8).alloc (Nat.le_refl _) _).mono HB5.out.size)).grown hgr (by rw [World.size_alloc]; have := HO5.out.bs.2; omega) (fun r hr => (owns_blk HO5x.out.w hr).1))
                         have HR9 : Hid (In w9 wL.heap.size Aq cq ((tuL (shRow (polL n k t l1 l2) C) R4 l4) q) ∨ Gw.Own w9 wL.heap.size 5 Aq cq ((tuL (shRow (polL n k t l1 l2) C) R4 l4) q)) := Lib.hid (by
                           rcases HROW.out with h | h
                           · exact .inl (h.below ⟨HB9.out.os.trans HB5.out.os.symm, HB9.out.tape.trans HB5.out.tape.symm, HB9.out.output.trans HB5.out.output.symm, by have := hgr.size; rw [World.size_alloc] at this; omega, fun b hb => (HB9.out.block b hb).trans (HB5.out.block b hb).symm⟩)
                           · exact .inr (⟨owns_other (h.alloc _).1 HO5x.out.w (by decide) hgr, h.2⟩))
                         have HO9 := Lib.hid hO
                         have HO9x := Lib.hid (HO9.out.grow (X := w9.alloc (.cells #[.int .i64 (q : Int)] 3)) ((Below.refl _ w9).alloc (Nat.le_refl _) _))
                         have HO9s := HO9.out.bs.2
                         clear hown hgr hat hO)
                      | (at_builtin
                         refine wpList_append_own_at _ rfl (.tmp 95) (.tmp 97) 24 rfl wL.heap.size 3 i0 (.int .i64 0) 1 8 Try.underlying24 hi0 hz0 hz1 hz2 rfl (by decide) (.slice Af (frL z3 q).length cf) (frL z3 q).length (intv (frL z3 q)) rfl HO9x.out.f ⟨w9.heap.size, 0, none⟩ 1 1 [.int .i64 (q : Int)] rfl rfl (fun j u hj => by
                           match j, hj with
                           | 0, hj => simp at hj; subst hj; exact cell_new w9 _ _) (fun u hu => by simp at hu; subst hu; rfl) (by simp only [maxLen]; omega) (by omega) (by rw [World.size_alloc]; have := HO9.out.bs.2; omega) ?_
                         intro v' w11 hown hgr _ hat
                         obtain ⟨A11, c11, rfl, hO⟩ := HO9x.out.from_ (by decide) (by decide) hown hgr hat
                         have HB11 := Lib.hid ((HB9.out.trans (((Below.refl _ w9).alloc (Nat.le_refl _) _).mono HB9.out.size)).grown hgr (by rw [World.size_alloc]; have := HO9.out.bs.2; omega) (fun r hr => (owns_blk HO9x.out.f hr).1))
                         have HR11 : Hid (In w11 wL.heap.size Aq cq ((tuL (shRow (polL n k t l1 l2) C) R4 l4) q) ∨ Gw.Own w11 wL.heap.size 5 Aq cq ((tuL (shRow (polL n k t l1 l2) C) R4 l4) q)) := Lib.hid (by
                           rcases HR9.out with h | h
                           · exact .inl (h.below ⟨HB11.out.os.trans HB9.out.os.symm, HB11.out.tape.trans HB9.out.tape.symm, HB11.out.output.trans HB9.out.output.symm, by have := hgr.size; rw [World.size_alloc] at this; omega, fun b hb => (HB11.out.block b hb).trans (HB9.out.block b hb).symm⟩)
                           · exact .inr (⟨owns_other (h.alloc _).1 HO9x.out.f (by decide) hgr, h.2⟩))
                         have HO11 := Lib.hid hO
                         have HO11x := Lib.hid (HO11.out.grow (X := w11.alloc (.cells #[.slice Aq C cq] 36)) ((Below.refl _ w11).alloc (Nat.le_refl _) _))
                         have HO11s := HO11.out.bs.2
                         clear hown hgr hat hO)
                      | (at_builtin
                         refine wpList_append_own _ rfl (.tmp 99) (.tmp 101) 25 rfl wL.heap.size 36 i1 (.slice none 0 0) 1 24 Try.underlying25 hj0 hj1 hj2 hj3 rfl (by decide) (.slice Av (frL z3 q).length cv) (frL z3 q).length (rvl pa cp (rOf (frL z3 n) (tuL (shRow (polL n k t l1 l2) C) R4 l4)) (frL z3 q).length) rfl HO11x.out.s.own ⟨w11.heap.size, 0, none⟩ 1 1 [.slice Aq C cq] rfl rfl (fun j u hj => by
                           match j, hj with
                           | 0, hj => simp at hj; subst hj; exact cell_new w11 _ _) (fun u hu => by simp at hu; subst hu; rfl) (by simp only [maxLen]; omega) (by omega) (by rw [World.size_alloc]; have := HO11.out.bs.2; omega) ?_
                         intro v'' w12 hown12 hgr12 _
                         have HR12 : Hid (In w12 wL.heap.size Aq cq (rOf (frL z3 n) (tuL (shRow (polL n k t l1 l2) C) R4 l4) (frL z3 q).length) ∨ Gw.Own w12 wL.heap.size 5 Aq cq (rOf (frL z3 n) (tuL (shRow (polL n k t l1 l2) C) R4 l4) (frL z3 q).length)) := Lib.hid (by
                           rw [HROF.out]
                           rcases HR11.out with h | h
                           · exact .inl ((h.below (((Below.refl _ w11).alloc (Nat.le_refl _) _).mono HO11.out.bs.2)).below (((Below.refl _ _).grown hgr12 (by rw [World.size_alloc]; have := HO11.out.bs.2; omega) (fun r hr => (owns_blk HO11x.out.s.own hr).1))))
                           · exact .inr (⟨owns_other (h.alloc _).1 HO11x.out.s.own (by decide) hgr12, h.2⟩))
                         have HO12 := Lib.hid (HO11x.out.share (by decide) (by decide) HR12.out (by rw [HROF.out, HLR.out]; exact hown12) hgr12)
                         have HB12 := Lib.hid ((HB11.out.trans (((Below.refl _ w11).alloc (Nat.le_refl _) _).mono HB11.out.size)).grown hgr12 (by rw [World.size_alloc]; have := HO11.out.bs.2; omega) (fun r hr => (owns_blk HO11x.out.s.own hr).1))
                         clear hown12 hgr12)
                      | fail)
                    go_roundw
                    case rel => exact ⟨q + 1, A11, c11, A9, c9, _, _, by omega, by go_num, by rw [frL_yes HKP.out, List.length_append]; rfl, by rw [HWT.out, List.length_append]; rfl, by rw [frL_yes HKP.out, HWT.out, List.length_append]; exact HO12.out, HB12.out⟩
                    case measure => simp [intOf]; omega
                  | false =>
                    have HDF := Lib.hid (hdfe.symm.trans hdf)
                    clear hdf
                    have HWT := Lib.hid (wtL_same HKP.out HDF.out)
                    have hlf := frL_len z3 q
                    have HROF := Lib.hid (rOf_at (T := (tuL (shRow (polL n k t l1 l2) C) R4 l4)) HKP.out hqn)
                    have HLR := Lib.hid (show ((tuL (shRow (polL n k t l1 l2) C) R4 l4) q).length = C by rw [tuL_len, shRow_len])
                    have hlw := Nat.le_trans (wtL_len (trnB n t k l1 l2 C (tuL (shRow (polL n k t l1 l2) C) R4 l4)) z3 q) hlf
                    have HO5x := Lib.hid (HO5.out.grow (X := w8.alloc (.cells #[.int .i64 (q : Int)] 3)) ((Below.refl _ w8).alloc (Nat.le_refl _) _))
                    have HO5s := HO5.out.bs.2
                    go_wp2_with (first
                      | (at_builtin
                         refine wpList_append_own_at _ rfl (.tmp 95) (.tmp 97) 24 rfl wL.heap.size 3 i0 (.int .i64 0) 1 8 Try.underlying24 hi0 hz0 hz1 hz2 rfl (by decide) (.slice Af (frL z3 q).length cf) (frL z3 q).length (intv (frL z3 q)) rfl HO5x.out.f ⟨w8.heap.size, 0, none⟩ 1 1 [.int .i64 (q : Int)] rfl rfl (fun j u hj => by
                           match j, hj with
                           | 0, hj => simp at hj; subst hj; exact cell_new w8 _ _) (fun u hu => by simp at hu; subst hu; rfl) (by simp only [maxLen]; omega) (by omega) (by rw [World.size_alloc]; have := HO5.out.bs.2; omega) ?_
                         intro v' w11 hown hgr _ hat
                         obtain ⟨A11, c11, rfl, hO⟩ := HO5x.out.from_ (by decide) (by decide) hown hgr hat
                         have HB11 := Lib.hid ((HB5.out.trans (((Below.refl _ w8).alloc (Nat.le_refl _) _).mono HB5.out.size)).grown hgr (by rw [World.size_alloc]; have := HO5.out.bs.2; omega) (fun r hr => (owns_blk HO5x.out.f hr).1))
                         have HR11 : Hid (In w11 wL.heap.size Aq cq ((tuL (shRow (polL n k t l1 l2) C) R4 l4) q) ∨ Gw.Own w11 wL.heap.size 5 Aq cq ((tuL (shRow (polL n k t l1 l2) C) R4 l4) q)) := Lib.hid (by
                           rcases HROW.out with h | h
                           · exact .inl (h.below ⟨HB11.out.os.trans HB5.out.os.symm, HB11.out.tape.trans HB5.out.tape.symm, HB11.out.output.trans HB5.out.output.symm, by have := hgr.size; rw [World.size_alloc] at this; omega, fun b hb => (HB11.out.block b hb).trans (HB5.out.block b hb).symm⟩)
                           · exact .inr (⟨owns_other (h.alloc _).1 HO5x.out.f (by decide) hgr, h.2⟩))
                         have HO11 := Lib.hid hO
                         have HO11x := Lib.hid (HO11.out.grow (X := w11.alloc (.cells #[.slice Aq C cq] 36)) ((Below.refl _ w11).alloc (Nat.le_refl _) _))
                         have HO11s := HO11.out.bs.2
                         clear hown hgr hat hO)
                      | (at_builtin
                         refine wpList_append_own _ rfl (.tmp 99) (.tmp 101) 25 rfl wL.heap.size 36 i1 (.slice none 0 0) 1 24 Try.underlying25 hj0 hj1 hj2 hj3 rfl (by decide) (.slice Av (frL z3 q).length cv) (frL z3 q).length (rvl pa cp (rOf (frL z3 n) (tuL (shRow (polL n k t l1 l2) C) R4 l4)) (frL z3 q).length) rfl HO11x.out.s.own ⟨w11.heap.size, 0, none⟩ 1 1 [.slice Aq C cq] rfl rfl (fun j u hj => by
                           match j, hj with
                           | 0, hj => simp at hj; subst hj; exact cell_new w11 _ _) (fun u hu => by simp at hu; subst hu; rfl) (by simp only [maxLen]; omega) (by omega) (by rw [World.size_alloc]; have := HO11.out.bs.2; omega) ?_
                         intro v'' w12 hown12 hgr12 _
                         have HR12 : Hid (In w12 wL.heap.size Aq cq (rOf (frL z3 n) (tuL (shRow (polL n k t l1 l2) C) R4 l4) (frL z3 q).length) ∨ Gw.Own w12 wL.heap.size 5 Aq cq (rOf (frL z3 n) (tuL (shRow (polL n k t l1 l2) C) R4 l4) (frL z3 q).length)) := Lib.hid (by
                           rw [HROF.out]
                           rcases HR11.out with h | h
                           · exact .inl ((h.below (((Below.refl _ w11).alloc (Nat.le_refl _) _).mono HO11.out.bs.2)).below (((Below.refl _ _).grown hgr12 (by rw [World.size_alloc]; have := HO11.out.bs.2; omega) (fun r hr => (owns_blk HO11x.out.s.own hr).1))))
                           · exact .inr (⟨owns_other (h.alloc _).1 HO11x.out.s.own (by decide) hgr12, h.2⟩))
                         have HO12 := Lib.hid (HO11x.out.share (by decide) (by decide) HR12.out (by rw [HROF.out, HLR.out]; exact hown12) hgr12)
                         have HB12 := Lib.hid ((HB11.out.trans (((Below.refl _ w11).alloc (Nat.le_refl _) _).mono HB11.out.size)).grown hgr12 (by rw [World.size_alloc]; have := HO11.out.bs.2; omega) (fun r hr => (owns_blk HO11x.out.s.own hr).1))
                         clear hown12 hgr12)
                      | fail)
                    go_roundw
                    case rel => exact ⟨q + 1, A11, c11, Aw, cw, _, _, by omega, by go_num, by rw [frL_yes HKP.out, List.length_append]; rfl, by rw [HWT.out], by rw [frL_yes HKP.out, HWT.out, List.length_append]; exact HO12.out, HB12.out⟩
                    case measure => simp [intOf]; omega
                  
          · have HBW := Lib.hid (HBL_.out.trans (hbel.mono HBL_.out.size))
            have HKP := Lib.hid (show kpB z3 q = true from by unfold kpB; rw [List.getD_eq_getElem?_getD, List.getElem?_eq_none (by omega)]; rfl)
            have hqzi : ¬ ((q : Int) < (X3 : Int)) := by rw [HX3.out]; omega
            have hqzg : (X3 : Int) ≤ (q : Int) := by rw [HX3.out]; omega
            by_cases hq4 : q < R4
            · have hq4i : (q : Int) < (R4 : Int) := by omega
              have hHS := (HMS.out.below hbel).rd q hqn
              obtain ⟨bs, os, hAs, hbs, hcs, his⟩ := hHS
              subst hAs
              rw [shRow_len] at hcs
              obtain ⟨AS, hAS⟩ : ∃ A, A = ps q := ⟨_, rfl⟩
              obtain ⟨cS, hcS⟩ : ∃ c, c = qs q := ⟨_, rfl⟩
              rw [← hAS, ← hcS] at his hcs
              obtain ⟨σ, hσ⟩ : ∃ σ, σ = str ((shRow (polL n k t l1 l2) C) q) := ⟨_, rfl⟩
              obtain ⟨τ, hτ⟩ : ∃ τ, τ = str ((tuL (shRow (polL n k t l1 l2) C) R4 l4) q) := ⟨_, rfl⟩
              obtain ⟨df, hdfe⟩ : ∃ df, df = (trnB n t k l1 l2 C (tuL (shRow (polL n k t l1 l2) C) R4 l4)) q := ⟨_, rfl⟩
              have HTB := Lib.hid (tuL_bb (S := (shRow (polL n k t l1 l2) C)) (R := R4) (l := l4) (h := q) his.bb (fun i hi => HMT.out.bb hi))
              have hst : (τ.toList == σ.toList) = !df := by
                rw [hτ, hσ, hdfe, str_same HTB.out his.bb]
                unfold trnB
                by_cases e' : (tuL (shRow (polL n k t l1 l2) C) R4 l4) q = (shRow (polL n k t l1 l2) C) q
                · rw [decide_eq_true e', decide_eq_false (fun h => h e')]; rfl
                · rw [decide_eq_false e', decide_eq_true e']; rfl
              have HTG := Lib.hid hτ
              have HSG := Lib.hid hσ
              have HLQ := Lib.hid (show ((tuL (shRow (polL n k t l1 l2) C) R4 l4) q).length = C by rw [tuL_len, shRow_len])
              obtain ⟨b4, o4, hA4, hb4, hc4, hi4⟩ := (HMT.out.below (HBL_.out.trans (hbel.mono HBL_.out.size))).rd q hq4
              subst hA4
              obtain ⟨A4q, hA4q⟩ : ∃ A, A = P4 q := ⟨_, rfl⟩
              obtain ⟨c4q, hc4q⟩ : ∃ c, c = n4 q := ⟨_, rfl⟩
              obtain ⟨m4, hm4⟩ : ∃ m, m = (l4 q).length := ⟨_, rfl⟩
              rw [← hA4q, ← hc4q] at hi4 hc4
              rw [← hm4] at hc4
              have htu : (tuL (shRow (polL n k t l1 l2) C) R4 l4) q = xorL ((shRow (polL n k t l1 l2) C) q) (l4 q) := by unfold tuL; rw [if_pos hq4]
              have HXO := Lib.hid (rxor_any AS A4q cS c4q C m4 ((shRow (polL n k t l1 l2) C) q) (l4 q) (by rw [shRow_len]) hm4 wr (his.more hbel.size) (hi4.more (Nat.le_trans HBL_.out.size hbel.size)) (by omega))
              have HIS0 := Lib.hid his
              have HOC0 := Lib.hid hoc
              have HBQ0 := Lib.hid hbel
              have HCS0 := Lib.hid hcs
              have hq4c : q < R4 := hq4
              clear hσ hτ his hoc hbel hAS hcS hi4 hA4q hc4q hm4
              go_wp2_with fail
              refine HXO.out.mono ?_
              rintro en w6 ⟨Aq, cq, rfl, ho6, hb6⟩
              rw [← htu] at ho6
              have HO6 := Lib.hid ho6
              have HIS := Lib.hid (HIS0.out.below (hb6.mono HBQ0.out.size))
              have HSM : Hid (wL.heap.size ≤ w6.heap.size) := Lib.hid (Nat.le_trans HBQ0.out.size hb6.size)
              have HIQ : Hid (In w6 w6.heap.size Aq cq ((tuL (shRow (polL n k t l1 l2) C) R4 l4) q)) := Lib.hid ho6.inn
              have HRQ : Hid (∀ W5, Below w6.heap.size w6 W5 → In W5 wL.heap.size Aq cq ((tuL (shRow (polL n k t l1 l2) C) R4 l4) q) ∨ Gw.Own W5 wL.heap.size 5 Aq cq ((tuL (shRow (polL n k t l1 l2) C) R4 l4) q)) := Lib.hid (fun W5 h5 => .inr ((HO6.out.kept h5).base HBQ0.out.size))
              have HOC := Lib.hid (HOC0.out.grow hb6)
              have HBQ := Lib.hid (HBQ0.out.trans (hb6.mono HBQ0.out.size))
              have HCS := Lib.hid ((hb6.cell (p := ⟨bs, os + q, none⟩) (cell_lt HCS0.out)).trans HCS0.out)
              have HBL := Lib.hid (Nat.lt_of_lt_of_le (cell_lt HCS0.out) hb6.size)
              have hzz := HBQ.out.size
              clear ho6 hb6 htu hcs z0 hc4 HXO
              go_wp2
              rename_i KK hKK
              refine Gt.regionA [Gt.Is (.slice Aq C cq), Gt.Is (.string τ), Gt.Is (.slice (some ⟨bs, os, none⟩) n cs), Gt.Is (.int .i64 (q : Int)), Gt.Is (.pointer (some ⟨bs, os + q, none⟩)), Gt.Is (.slice AS C cS), Gt.Is (.string σ), Gt.Is (.bool df)] 152
                [⟨[], [16], none⟩, ⟨[(0, 83)], [], none⟩, ⟨[], [11], none⟩, ⟨[], [15], none⟩, ⟨[(2, 85), (3, 86)], [], none⟩, ⟨[(4, 87)], [], none⟩, ⟨[(5, 88)], [], none⟩, ⟨[(1, 84), (6, 89)], [], none⟩]
                [(0, 83), (1, 84), (2, 85), (3, 86), (4, 87), (5, 88), (6, 89), (7, 90)] (by kernel_rfl) (by kernel_rfl) (by kernel_rfl) (by kernel_rfl) ?_ ?_ ?_
              · simp only [Gt.Monos]
                repeat' apply And.intro
                all_goals (first | exact trivial | exact Gt.Is.mono _)
              · simp only [Gt.Obs]
                repeat' apply And.intro
                all_goals try exact trivial
                all_goals (
                  intro a w5 hg
                  have hg' : Below w6.heap.size w6 w5 := hg
                  simp only [Gt.Pre, Gt.Kept, Gt.Guarded, Gt.tys, List.getD_cons_zero, List.getD_cons_succ, Gt.Is, Nat.zero_add, Nat.reduceAdd]
                  intros
                  try (refine ⟨fun _ => ?_, fun hne => absurd (by assumption) hne⟩))
                all_goals (first
                  | exact Gt.ok_move rfl (by assumption)
                  | exact Gt.ok_assign rfl (by assumption)
                  | exact Gt.ok_pick rfl (by assumption) (by rw [if_pos rfl]; assumption)
                  | (have k5 := conv_sl (P := Try.prog) ((HIQ.out.below hg')).sl Try.underlying36 Try.underlying5 Try.underlying9 cq
                     rw [HLQ.out, ← HTG.out] at k5
                     exact Gt.ok_convert rfl (by assumption) k5 rfl)
                  | (have k5 := conv_sl (P := Try.prog) (((HIS.out.more HSM.out).below hg')).sl Try.underlying36 Try.underlying5 Try.underlying9 cS
                     rw [shRow_len, ← HSG.out] at k5
                     exact Gt.ok_convert rfl (by assumption) k5 rfl)
                  | (have k5 := (hg'.cell (p := ⟨bs, os + q, none⟩) HBL.out).trans HCS.out
                     refine Gt.ok_run ?_ rfl
                     simp only [execOp, *]
                     go_simp
                     done))
              · intro a w5 hg
                have hg' : Below w6.heap.size w6 w5 := hg
                simp only [Gt.Pre, Gt.tys, List.getD_cons_zero, List.getD_cons_succ, Gt.Is]
                intro h0 h1 h2 h3 h4 h5 h6 h7
                show KK _ _
                refine hKK _ _ ?_
                simp only [Gt.puts, List.foldl_cons, List.foldl_nil, h0, h1, h2, h3, h4, h5, h6, h7]
                simp only [Act.put, List.setIfInBounds_toArray, List.set_cons_zero, List.set_cons_succ]
                have HO5 := Lib.hid (HOC.out.grow hg')
                have HB5 := Lib.hid (HBQ.out.trans (hg'.mono HBQ.out.size))
                have HROW : Hid (In w5 wL.heap.size Aq cq ((tuL (shRow (polL n k t l1 l2) C) R4 l4) q) ∨ Gw.Own w5 wL.heap.size 5 Aq cq ((tuL (shRow (polL n k t l1 l2) C) R4 l4) q)) := Lib.hid (HRQ.out w5 hg')
                clear h0 h1 h2 h3 h4 h5 h6 h7
                obtain ⟨w8, hw8⟩ : ∃ w8, w8 = w5 := ⟨_, rfl⟩
                rw [← hw8] at HO5 HB5 HROW ⊢
                clear hw8 hg' hg
                cases hdf : df with
                | true =>
                  have HDF := Lib.hid (hdfe.symm.trans hdf)
                  clear hdf
                  have HWT := Lib.hid (wtL_yes HKP.out HDF.out)
                  have hlf := frL_len z3 q
                  have HROF := Lib.hid (rOf_at (T := (tuL (shRow (polL n k t l1 l2) C) R4 l4)) HKP.out hqn)
                  have HLR := Lib.hid (show ((tuL (shRow (polL n k t l1 l2) C) R4 l4) q).length = C by rw [tuL_len, shRow_len])
                  have hlw := Nat.le_trans (wtL_len (trnB n t k l1 l2 C (tuL (shRow (polL n k t l1 l2) C) R4 l4)) z3 q) hlf
                  have HO5x := Lib.hid (HO5.out.grow (X := w8.alloc (.cells #[.int .i64 (q : Int)] 3)) ((Below.refl _ w8).alloc (Nat.le_refl _) _))
                  have HO5s := HO5.out.bs.2
                  go_wp2_with (first
                    | (at_builtin
                       refine wpList_append_own_at _ rfl (.tmp 91) (.tmp 93) 24 rfl wL.heap.size 3 i0 (.int .i64 0) 1 8 Try.underlying24 hi0 hz0 hz1 hz2 rfl (by decide) (.slice Aw (wtL (trnB n t k l1 l2 C (tuL (shRow (polL n k t l1 l2) C) R4 l4)) z3 q).length cw) (wtL (trnB n t k l1 l2 C (tuL (shRow (polL n k t l1 l2) C) R4 l4)) z3 q).length (intv (wtL (trnB n t k l1 l2 C (tuL (shRow (polL n k t l1 l2) C) R4 l4)) z3 q)) rfl HO5x.out.w ⟨w8.heap.size, 0, none⟩ 1 1 [.int .i64 (q : Int)] rfl rfl (fun j u hj => by
                         match j, hj with
                         | 0, hj => simp at hj; subst hj; exact cell_new w8 _ _) (fun u hu => by simp at hu; subst hu; rfl) (by simp only [maxLen]; omega) (by omega) (by rw [World.size_alloc]; have := HO5.out.bs.2; omega) ?_
                       intro v' w9 hown hgr _ hat
                       obtain ⟨A9, c9, rfl, hO⟩ := HO5x.out.want (by decide) (by decide) hown hgr hat
                       have HB9 := Lib.hid ((HB5.out.trans (((Below.refl _ w8).alloc (Nat.le_refl _) _).mono HB5.out.size)).grown hgr (by rw [World.size_alloc]; have := HO5.out.bs.2; omega) (fun r hr => (owns_blk HO5x.out.w hr).1))
                       have HR9 : Hid (In w9 wL.heap.size Aq cq ((tuL (shRow (polL n k t l1 l2) C) R4 l4) q) ∨ Gw.Own w9 wL.heap.size 5 Aq cq ((tuL (shRow (polL n k t l1 l2) C) R4 l4) q)) := Lib.hid (by
                         rcases HROW.out with h | h
                         · exact .inl (h.below ⟨HB9.out.os.trans HB5.out.os.symm, HB9.out.tape.trans HB5.out.tape.symm, HB9.out.output.trans HB5.out.output.symm, by have := hgr.size; rw [World.size_alloc] at this; omega, fun b hb => (HB9.out.block b hb).trans (HB5.out.block b hb).symm⟩)
                         · exact .inr (⟨owns_other (h.alloc _).1 HO5x.out.w (by decide) hgr, h.2⟩))
                       have HO9 := Lib.hid hO
                       have HO9x := Lib.hid (HO9.out.grow (X := w9.alloc (.cells #[.int .i64 (q : Int)] 3)) ((Below.refl _ w9).alloc (Nat.le_refl _) _))
                       have HO9s := HO9.out.bs.2
                       clear hown hgr hat hO)
                    | (at_builtin
                       refine wpList_append_own_at _ rfl (.tmp 95) (.tmp 97) 24 rfl wL.heap.size 3 i0 (.int .i64 0) 1 8 Try.underlying24 hi0 hz0 hz1 hz2 rfl (by decide) (.slice Af (frL z3 q).length cf) (frL z3 q).length (intv (frL z3 q)) rfl HO9x.out.f ⟨w9.heap.size, 0, none⟩ 1 1 [.int .i64 (q : Int)] rfl rfl (fun j u hj => by
                         match j, hj with
                         | 0, hj => simp at hj; subst hj; exact cell_new w9 _ _) (fun u hu => by simp at hu; subst hu; rfl) (by simp only [maxLen]; omega) (by omega) (by rw [World.size_alloc]; have := HO9.out.bs.2; omega) ?_
                       intro v' w11 hown hgr _ hat
                       obtain ⟨A11, c11, rfl, hO⟩ := HO9x.out.from_ (by decide) (by decide) hown hgr hat
                       have HB11 := Lib.hid ((HB9.out.trans (((Below.refl _ w9).alloc (Nat.le_refl _) _).mono HB9.out.size)).grown hgr (by rw [World.size_alloc]; have := HO9.out.bs.2; omega) (fun r hr => (owns_blk HO9x.out.f hr).1))
                       have HR11 : Hid (In w11 wL.heap.size Aq cq ((tuL (shRow (polL n k t l1 l2) C) R4 l4) q) ∨ Gw.Own w11 wL.heap.size 5 Aq cq ((tuL (shRow (polL n k t l1 l2) C) R4 l4) q)) := Lib.hid (by
                         rcases HR9.out with h | h
                         · exact .inl (h.below ⟨HB11.out.os.trans HB9.out.os.symm, HB11.out.tape.trans HB9.out.tape.symm, HB11.out.output.trans HB9.out.output.symm, by have := hgr.size; rw [World.size_alloc] at this; omega, fun b hb => (HB11.out.block b hb).trans (HB9.out.block b hb).symm⟩)
                         · exact .inr (⟨owns_other (h.alloc _).1 HO9x.out.f (by decide) hgr, h.2⟩))
                       have HO11 := Lib.hid hO
                       have HO11x := Lib.hid (HO11.out.grow (X := w11.alloc (.cells #[.slice Aq C cq] 36)) ((Below.refl _ w11).alloc (Nat.le_refl _) _))
                       have HO11s := HO11.out.bs.2
                       clear hown hgr hat hO)
                    | (at_builtin
                       refine wpList_append_own _ rfl (.tmp 99) (.tmp 101) 25 rfl wL.heap.size 36 i1 (.slice none 0 0) 1 24 Try.underlying25 hj0 hj1 hj2 hj3 rfl (by decide) (.slice Av (frL z3 q).length cv) (frL z3 q).length (rvl pa cp (rOf (frL z3 n) (tuL (shRow (polL n k t l1 l2) C) R4 l4)) (frL z3 q).length) rfl HO11x.out.s.own ⟨w11.heap.size, 0, none⟩ 1 1 [.slice Aq C cq] rfl rfl (fun j u hj => by
                         match j, hj with
                         | 0, hj => simp at hj; subst hj; exact cell_new w11 _ _) (fun u hu => by simp at hu; subst hu; rfl) (by simp only [maxLen]; omega) (by omega) (by rw [World.size_alloc]; have := HO11.out.bs.2; omega) ?_
                       intro v'' w12 hown12 hgr12 _
                       have HR12 : Hid (In w12 wL.heap.size Aq cq (rOf (frL z3 n) (tuL (shRow (polL n k t l1 l2) C) R4 l4) (frL z3 q).length) ∨ Gw.Own w12 wL.heap.size 5 Aq cq (rOf (frL z3 n) (tuL (shRow (polL n k t l1 l2) C) R4 l4) (frL z3 q).length)) := Lib.hid (by
                         rw [HROF.out]
                         rcases HR11.out with h | h
                         · exact .inl ((h.below (((Below.refl _ w11).alloc (Nat.le_refl _) _).mono HO11.out.bs.2)).below (((Below.refl _ _).grown hgr12 (by rw [World.size_alloc]; have := HO11.out.bs.2; omega) (fun r hr => (owns_blk HO11x.out.s.own hr).1))))
                         · exact .inr (⟨owns_other (h.alloc _).1 HO11x.out.s.own (by decide) hgr12, h.2⟩))
                       have HO12 := Lib.hid (HO11x.out.share (by decide) (by decide) HR12.out (by rw [HROF.out, HLR.out]; exact hown12) hgr12)
                       have HB12 := Lib.hid ((HB11.out.trans (((Below.refl _ w11).alloc (Nat.le_refl _) _).mono HB11.out.size)).grown hgr12 (by rw [World.size_alloc]; have := HO11.out.bs.2; omega) (fun r hr => (owns_blk HO11x.out.s.own hr).1))
                       clear hown12 hgr12)
                    | fail)
                  go_roundw
                  case rel => exact ⟨q + 1, A11, c11, A9, c9, _, _, by omega, by go_num, by rw [frL_yes HKP.out, List.length_append]; rfl, by rw [HWT.out, List.length_append]; rfl, by rw [frL_yes HKP.out, HWT.out, List.length_append]; exact HO12.out, HB12.out⟩
                  case measure => simp [intOf]; omega
                | false =>
                  have HDF := Lib.hid (hdfe.symm.trans hdf)
                  clear hdf
                  have HWT := Lib.hid (wtL_same HKP.out HDF.out)
                  have hlf := frL_len z3 q
                  have HROF := Lib.hid (rOf_at (T := (tuL (shRow (polL n k t l1 l2) C) R4 l4)) HKP.out hqn)
                  have HLR := Lib.hid (show ((tuL (shRow (polL n k t l1 l2) C) R4 l4) q).length = C by rw [tuL_len, shRow_len])
                  have hlw := Nat.le_trans (wtL_len (trnB n t k l1 l2 C (tuL (shRow (polL n k t l1 l2) C) R4 l4)) z3 q) hlf
                  have HO5x := Lib.hid (HO5.out.grow (X := w8.alloc (.cells #[.int .i64 (q : Int)] 3)) ((Below.refl _ w8).alloc (Nat.le_refl _) _))
                  have HO5s := HO5.out.bs.2
                  go_wp2_with (first
                    | (at_builtin
                       refine wpList_append_own_at _ rfl (.tmp 95) (.tmp 97) 24 rfl wL.heap.size 3 i0 (.int .i64 0) 1 8 Try.underlying24 hi0 hz0 hz1 hz2 rfl (by decide) (.slice Af (frL z3 q).length cf) (frL z3 q).length (intv (frL z3 q)) rfl HO5x.out.f ⟨w8.heap.size, 0, none⟩ 1 1 [.int .i64 (q : Int)] rfl rfl (fun j u hj => by
                         match j, hj with
                         | 0, hj => simp at hj; subst hj; exact cell_new w8 _ _) (fun u hu => by simp at hu; subst hu; rfl) (by simp only [maxLen]; omega) (by omega) (by rw [World.size_alloc]; have := HO5.out.bs.2; omega) ?_
                       intro v' w11 hown hgr _ hat
                       obtain ⟨A11, c11, rfl, hO⟩ := HO5x.out.from_ (by decide) (by decide) hown hgr hat
                       have HB11 := Lib.hid ((HB5.out.trans (((Below.refl _ w8).alloc (Nat.le_refl _) _).mono HB5.out.size)).grown hgr (by rw [World.size_alloc]; have := HO5.out.bs.2; omega) (fun r hr => (owns_blk HO5x.out.f hr).1))
                       have HR11 : Hid (In w11 wL.heap.size Aq cq ((tuL (shRow (polL n k t l1 l2) C) R4 l4) q) ∨ Gw.Own w11 wL.heap.size 5 Aq cq ((tuL (shRow (polL n k t l1 l2) C) R4 l4) q)) := Lib.hid (by
                         rcases HROW.out with h | h
                         · exact .inl (h.below ⟨HB11.out.os.trans HB5.out.os.symm, HB11.out.tape.trans HB5.out.tape.symm, HB11.out.output.trans HB5.out.output.symm, by have := hgr.size; rw [World.size_alloc] at this; omega, fun b hb => (HB11.out.block b hb).trans (HB5.out.block b hb).symm⟩)
                         · exact .inr (⟨owns_other (h.alloc _).1 HO5x.out.f (by decide) hgr, h.2⟩))
                       have HO11 := Lib.hid hO
                       have HO11x := Lib.hid (HO11.out.grow (X := w11.alloc (.cells #[.slice Aq C cq] 36)) ((Below.refl _ w11).alloc (Nat.le_refl _) _))
                       have HO11s := HO11.out.bs.2
                       clear hown hgr hat hO)
                    | (at_builtin
                       refine wpList_append_own _ rfl (.tmp 99) (.tmp 101) 25 rfl wL.heap.size 36 i1 (.slice none 0 0) 1 24 Try.underlying25 hj0 hj1 hj2 hj3 rfl (by decide) (.slice Av (frL z3 q).length cv) (frL z3 q).length (rvl pa cp (rOf (frL z3 n) (tuL (shRow (polL n k t l1 l2) C) R4 l4)) (frL z3 q).length) rfl HO11x.out.s.own ⟨w11.heap.size, 0, none⟩ 1 1 [.slice Aq C cq] rfl rfl (fun j u hj => by
                         match j, hj with
                         | 0, hj => simp at hj; subst hj; exact cell_new w11 _ _) (fun u hu => by simp at hu; subst hu; rfl) (by simp only [maxLen]; omega) (by omega) (by rw [World.size_alloc]; have := HO11.out.bs.2; omega) ?_
                       intro v'' w12 hown12 hgr12 _
                       have HR12 : Hid (In w12 wL.heap.size Aq cq (rOf (frL z3 n) (tuL (shRow (polL n k t l1 l2) C) R4 l4) (frL z3 q).length) ∨ Gw.Own w12 wL.heap.size 5 Aq cq (rOf (frL z3 n) (tuL (shRow (polL n k t l1 l2) C) R4 l4) (frL z3 q).length)) := Lib.hid (by
                         rw [HROF.out]
                         rcases HR11.out with h | h
                         · exact .inl ((h.below (((Below.refl _ w11).alloc (Nat.le_refl _) _).mono HO11.out.bs.2)).below (((Below.refl _ _).grown hgr12 (by rw [World.size_alloc]; have := HO11.out.bs.2; omega) (fun r hr => (owns_blk HO11x.out.s.own hr).1))))
                         · exact .inr (⟨owns_other (h.alloc _).1 HO11x.out.s.own (by decide) hgr12, h.2⟩))
                       have HO12 := Lib.hid (HO11x.out.share (by decide) (by decide) HR12.out (by rw [HROF.out, HLR.out]; exact hown12) hgr12)
                       have HB12 := Lib.hid ((HB11.out.trans (((Below.refl _ w11).alloc (Nat.le_refl _) _).mono HB11.out.size)).grown hgr12 (by rw [World.size_alloc]; have := HO11.out.bs.2; omega) (fun r hr => (owns_blk HO11x.out.s.own hr).1))
                       clear hown12 hgr12)
                    | fail)
                  go_roundw
                  case rel => exact ⟨q + 1, A11, c11, Aw, cw, _, _, by omega, by go_num, by rw [frL_yes HKP.out, List.length_append]; rfl, by rw [HWT.out], by rw [frL_yes HKP.out, HWT.out, List.length_append]; exact HO12.out, HB12.out⟩
                  case measure => simp [intOf]; omega
                
            · have hq4i : ¬ ((q : Int) < (R4 : Int)) := by omega
              have hHS := (HMS.out.below hbel).rd q hqn
              obtain ⟨bs, os, hAs, hbs, hcs, his⟩ := hHS
              subst hAs
              rw [shRow_len] at hcs
              obtain ⟨AS, hAS⟩ : ∃ A, A = ps q := ⟨_, rfl⟩
              obtain ⟨cS, hcS⟩ : ∃ c, c = qs q := ⟨_, rfl⟩
              rw [← hAS, ← hcS] at his hcs
              obtain ⟨σ, hσ⟩ : ∃ σ, σ = str ((shRow (polL n k t l1 l2) C) q) := ⟨_, rfl⟩
              obtain ⟨τ, hτ⟩ : ∃ τ, τ = str ((tuL (shRow (polL n k t l1 l2) C) R4 l4) q) := ⟨_, rfl⟩
              obtain ⟨df, hdfe⟩ : ∃ df, df = (trnB n t k l1 l2 C (tuL (shRow (polL n k t l1 l2) C) R4 l4)) q := ⟨_, rfl⟩
              have HTB := Lib.hid (tuL_bb (S := (shRow (polL n k t l1 l2) C)) (R := R4) (l := l4) (h := q) his.bb (fun i hi => HMT.out.bb hi))
              have hst : (τ.toList == σ.toList) = !df := by
                rw [hτ, hσ, hdfe, str_same HTB.out his.bb]
                unfold trnB
                by_cases e' : (tuL (shRow (polL n k t l1 l2) C) R4 l4) q = (shRow (polL n k t l1 l2) C) q
                · rw [decide_eq_true e', decide_eq_false (fun h => h e')]; rfl
                · rw [decide_eq_false e', decide_eq_true e']; rfl
              have HTG := Lib.hid hτ
              have HSG := Lib.hid hσ
              have HLQ := Lib.hid (show ((tuL (shRow (polL n k t l1 l2) C) R4 l4) q).length = C by rw [tuL_len, shRow_len])
              obtain ⟨Aq, hAq⟩ : ∃ Aq, Aq = AS := ⟨_, rfl⟩
              obtain ⟨cq, hcq⟩ : ∃ cq, cq = cS := ⟨_, rfl⟩
              have htu : (tuL (shRow (polL n k t l1 l2) C) R4 l4) q = (shRow (polL n k t l1 l2) C) q := by unfold tuL; rw [if_neg hq4]
              have HIS := Lib.hid his
              have HSM : Hid (wL.heap.size ≤ wr.heap.size) := Lib.hid hbel.size
              have HIQ : Hid (In wr wr.heap.size Aq cq ((tuL (shRow (polL n k t l1 l2) C) R4 l4) q)) := Lib.hid (by rw [htu, hAq, hcq]; exact his.more hbel.size)
              have HRQ : Hid (∀ W5, Below wr.heap.size wr W5 → In W5 wL.heap.size Aq cq ((tuL (shRow (polL n k t l1 l2) C) R4 l4) q) ∨ Gw.Own W5 wL.heap.size 5 Aq cq ((tuL (shRow (polL n k t l1 l2) C) R4 l4) q)) := Lib.hid (fun W5 h5 => .inl (by rw [htu, hAq, hcq]; exact his.below (h5.mono hbel.size)))
              have HOC := Lib.hid hoc
              have HBQ := Lib.hid hbel
              have HCS := Lib.hid hcs
              have HBL := Lib.hid (cell_lt hcs)
              clear hσ hτ his hoc hbel htu hAS hcS
              go_wp2
              rw [← hAq, ← hcq]
              clear hcs z0 hAq hcq
              rename_i KK hKK
              refine Gt.regionA [Gt.Is (.slice Aq C cq), Gt.Is (.string τ), Gt.Is (.slice (some ⟨bs, os, none⟩) n cs), Gt.Is (.int .i64 (q : Int)), Gt.Is (.pointer (some ⟨bs, os + q, none⟩)), Gt.Is (.slice AS C cS), Gt.Is (.string σ), Gt.Is (.bool df)] 152
                [⟨[], [16], none⟩, ⟨[(0, 83)], [], none⟩, ⟨[], [11], none⟩, ⟨[], [15], none⟩, ⟨[(2, 85), (3, 86)], [], none⟩, ⟨[(4, 87)], [], none⟩, ⟨[(5, 88)], [], none⟩, ⟨[(1, 84), (6, 89)], [], none⟩]
                [(0, 83), (1, 84), (2, 85), (3, 86), (4, 87), (5, 88), (6, 89), (7, 90)] (by kernel_rfl) (by kernel_rfl) (by kernel_rfl) (by kernel_rfl) ?_ ?_ ?_
              · simp only [Gt.Monos]
                repeat' apply And.intro
                all_goals (first | exact trivial | exact Gt.Is.mono _)
              · simp only [Gt.Obs]
                repeat' apply And.intro
                all_goals try exact trivial
                all_goals (
                  intro a w5 hg
                  have hg' : Below wr.heap.size wr w5 := hg
                  simp only [Gt.Pre, Gt.Kept, Gt.Guarded, Gt.tys, List.getD_cons_zero, List.getD_cons_succ, Gt.Is, Nat.zero_add, Nat.reduceAdd]
                  intros
                  try (refine ⟨fun _ => ?_, fun hne => absurd (by assumption) hne⟩))
                all_goals (first
                  | exact Gt.ok_move rfl (by assumption)
                  | exact Gt.ok_assign rfl (by assumption)
                  | exact Gt.ok_pick rfl (by assumption) (by rw [if_pos rfl]; assumption)
                  | (have k5 := conv_sl (P := Try.prog) ((HIQ.out.below hg')).sl Try.underlying36 Try.underlying5 Try.underlying9 cq
                     rw [HLQ.out, ← HTG.out] at k5
                     exact Gt.ok_convert rfl (by assumption) k5 rfl)
                  | (have k5 := conv_sl (P := Try.prog) (((HIS.out.more HSM.out).below hg')).sl Try.underlying36 Try.underlying5 Try.underlying9 cS
                     rw [shRow_len, ← HSG.out] at k5
                     exact Gt.ok_convert rfl (by assumption) k5 rfl)
                  | (have k5 := (hg'.cell (p := ⟨bs, os + q, none⟩) HBL.out).trans HCS.out
                     refine Gt.ok_run ?_ rfl
                     simp only [execOp, *]
                     go_simp
                     done))
              · intro a w5 hg
                have hg' : Below wr.heap.size wr w5 := hg
                simp only [Gt.Pre, Gt.tys, List.getD_cons_zero, List.getD_cons_succ, Gt.Is]
                intro h0 h1 h2 h3 h4 h5 h6 h7
                show KK _ _
                refine hKK _ _ ?_
                simp only [Gt.puts, List.foldl_cons, List.foldl_nil, h0, h1, h2, h3, h4, h5, h6, h7]
                simp only [Act.put, List.setIfInBounds_toArray, List.set_cons_zero, List.set_cons_succ]
                have HO5 := Lib.hid (HOC.out.grow hg')
                have HB5 := Lib.hid (HBQ.out.trans (hg'.mono HBQ.out.size))
                have HROW : Hid (In w5 wL.heap.size Aq cq ((tuL (shRow (polL n k t l1 l2) C) R4 l4) q) ∨ Gw.Own w5 wL.heap.size 5 Aq cq ((tuL (shRow (polL n k t l1 l2) C) R4 l4) q)) := Lib.hid (HRQ.out w5 hg')
                clear h0 h1 h2 h3 h4 h5 h6 h7
                obtain ⟨w8, hw8⟩ : ∃ w8, w8 = w5 := ⟨_, rfl⟩
                rw [← hw8] at HO5 HB5 HROW ⊢
                clear hw8 hg' hg
                cases hdf : df with
                | true =>
                  have HDF := Lib.hid (hdfe.symm.trans hdf)
                  clear hdf
                  have HWT := Lib.hid (wtL_yes HKP.out HDF.out)
                  have hlf := frL_len z3 q
                  have HROF := Lib.hid (rOf_at (T := (tuL (shRow (polL n k t l1 l2) C) R4 l4)) HKP.out hqn)
                  have HLR := Lib.hid (show ((tuL (shRow (polL n k t l1 l2) C) R4 l4) q).length = C by rw [tuL_len, shRow_len])
                  have hlw := Nat.le_trans (wtL_len (trnB n t k l1 l2 C (tuL (shRow (polL n k t l1 l2) C) R4 l4)) z3 q) hlf
                  have HO5x := Lib.hid (HO5.out.grow (X := w8.alloc (.cells #[.int .i64 (q : Int)] 3)) ((Below.refl _ w8).alloc (Nat.le_refl _) _))
                  have HO5s := HO5.out.bs.2
                  go_wp2_with (first
                    | (at_builtin
                       refine wpList_append_own_at _ rfl (.tmp 91) (.tmp 93) 24 rfl wL.heap.size 3 i0 (.int .i64 0) 1 8 Try.underlying24 hi0 hz0 hz1 hz2 rfl (by decide) (.slice Aw (wtL (trnB n t k l1 l2 C (tuL (shRow (polL n k t l1 l2) C) R4 l4)) z3 q).length cw) (wtL (trnB n t k l1 l2 C (tuL (shRow (polL n k t l1 l2) C) R4 l4)) z3 q).length (intv (wtL (trnB n t k l1 l2 C (tuL (shRow (polL n k t l1 l2) C) R4 l4)) z3 q)) rfl HO5x.out.w ⟨w8.heap.size, 0, none⟩ 1 1 [.int .i64 (q : Int)] rfl rfl (fun j u hj => by
                         match j, hj with
                         | 0, hj => simp at hj; subst hj; exact cell_new w8 _ _) (fun u hu => by simp at hu; subst hu; rfl) (by simp only [maxLen]; omega) (by omega) (by rw [World.size_alloc]; have := HO5.out.bs.2; omega) ?_
                       intro v' w9 hown hgr _ hat
                       obtain ⟨A9, c9, rfl, hO⟩ := HO5x.out.want (by decide) (by decide) hown hgr hat
                       have HB9 := Lib.hid ((HB5.out.trans (((Below.refl _ w8).alloc (Nat.le_refl _) _).mono HB5.out.size)).grown hgr (by rw [World.size_alloc]; have := HO5.out.bs.2; omega) (fun r hr => (owns_blk HO5x.out.w hr).1))
                       have HR9 : Hid (In w9 wL.heap.size Aq cq ((tuL (shRow (polL n k t l1 l2) C) R4 l4) q) ∨ Gw.Own w9 wL.heap.size 5 Aq cq ((tuL (shRow (polL n k t l1 l2) C) R4 l4) q)) := Lib.hid (by
                         rcases HROW.out with h | h
                         · exact .inl (h.below ⟨HB9.out.os.trans HB5.out.os.symm, HB9.out.tape.trans HB5.out.tape.symm, HB9.out.output.trans HB5.out.output.symm, by have := hgr.size; rw [World.size_alloc] at this; omega, fun b hb => (HB9.out.block b hb).trans (HB5.out.block b hb).symm⟩)
                         · exact .inr (⟨owns_other (h.alloc _).1 HO5x.out.w (by decide) hgr, h.2⟩))
                       have HO9 := Lib.hid hO
                       have HO9x := Lib.hid (HO9.out.grow (X := w9.alloc (.cells #[.int .i64 (q : Int)] 3)) ((Below.refl _ w9).alloc (Nat.le_refl _) _))
                       have HO9s := HO9.out.bs.2
                       clear hown hgr hat hO)
                    | (at_builtin
                       refine wpList_append_own_at _ rfl (.tmp 95) (.tmp 97) 24 rfl wL.heap.size 3 i0 (.int .i64 0) 1 8 Try.underlying24 hi0 hz0 hz1 hz2 rfl (by decide) (.slice Af (frL z3 q).length cf) (frL z3 q).length (intv (frL z3 q)) rfl HO9x.out.f ⟨w9.heap.size, 0, none⟩ 1 1 [.int .i64 (q : Int)] rfl rfl (fun j u hj => by
                         match j, hj with
                         | 0, hj => simp at hj; subst hj; exact cell_new w9 _ _) (fun u hu => by simp at hu; subst hu; rfl) (by simp only [maxLen]; omega) (by omega) (by rw [World.size_alloc]; have := HO9.out.bs.2; omega) ?_
                       intro v' w11 hown hgr _ hat
                       obtain ⟨A11, c11, rfl, hO⟩ := HO9x.out.from_ (by decide) (by decide) hown hgr hat
                       have HB11 := Lib.hid ((HB9.out.trans (((Below.refl _ w9).alloc (Nat.le_refl _) _).mono HB9.out.size)).grown hgr (by rw [World.size_alloc]; have := HO9.out.bs.2; omega) (fun r hr => (owns_blk HO9x.out.f hr).1))
                       have HR11 : Hid (In w11 wL.heap.size Aq cq ((tuL (shRow (polL n k t l1 l2) C) R4 l4) q) ∨ Gw.Own w11 wL.heap.size 5 Aq cq ((tuL (shRow (polL n k t l1 l2) C) R4 l4) q)) := Lib.hid (by
                         rcases HR9.out with h | h
                         · exact .inl (h.below ⟨HB11.out.os.trans HB9.out.os.symm, HB11.out.tape.trans HB9.out.tape.symm, HB11.out.output.trans HB9.out.output.symm, by have := hgr.size; rw [World.size_alloc] at this; omega, fun b hb => (HB11.out.block b hb).trans (HB9.out.block b hb).symm⟩)
                         · exact .inr (⟨owns_other (h.alloc _).1 HO9x.out.f (by decide) hgr, h.2⟩))
                       have HO11 := Lib.hid hO
                       have HO11x := Lib.hid (HO11.out.grow (X := w11.alloc (.cells #[.slice Aq C cq] 36)) ((Below.refl _ w11).alloc (Nat.le_refl _) _))
                       have HO11s := HO11.out.bs.2
                       clear hown hgr hat hO)
                    | (at_builtin
                       refine wpList_append_own _ rfl (.tmp 99) (.tmp 101) 25 rfl wL.heap.size 36 i1 (.slice none 0 0) 1 24 Try.underlying25 hj0 hj1 hj2 hj3 rfl (by decide) (.slice Av (frL z3 q).length cv) (frL z3 q).length (rvl pa cp (rOf (frL z3 n) (tuL (shRow (polL n k t l1 l2) C) R4 l4)) (frL z3 q).length) rfl HO11x.out.s.own ⟨w11.heap.size, 0, none⟩ 1 1 [.slice Aq C cq] rfl rfl (fun j u hj => by
                         match j, hj with
                         | 0, hj => simp at hj; subst hj; exact cell_new w11 _ _) (fun u hu => by simp at hu; subst hu; rfl) (by simp only [maxLen]; omega) (by omega) (by rw [World.size_alloc]; have := HO11.out.bs.2; omega) ?_
                       intro v'' w12 hown12 hgr12 _
                       have HR12 : Hid (In w12 wL.heap.size Aq cq (rOf (frL z3 n) (tuL (shRow (polL n k t l1 l2) C) R4 l4) (frL z3 q).length) ∨ Gw.Own w12 wL.heap.size 5 Aq cq (rOf (frL z3 n) (tuL (shRow (polL n k t l1 l2) C) R4 l4) (frL z3 q).length)) := Lib.hid (by
                         rw [HROF.out]
                         rcases HR11.out with h | h
                         · exact .inl ((h.below (((Below.refl _ w11).alloc (Nat.le_refl _) _).mono HO11.out.bs.2)).below (((Below.refl _ _).grown hgr12 (by rw [World.size_alloc]; have := HO11.out.bs.2; omega) (fun r hr => (owns_blk HO11x.out.s.own hr).1))))
                         · exact .inr (⟨owns_other (h.alloc _).1 HO11x.out.s.own (by decide) hgr12, h.2⟩))
                       have HO12 := Lib.hid (HO11x.out.share (by decide) (by decide) HR12.out (by rw [HROF.out, HLR.out]; exact hown12) hgr12)
                       have HB12 := Lib.hid ((HB11.out.trans (((Below.refl _ w11).alloc (Nat.le_refl _) _).mono HB11.out.size)).grown hgr12 (by rw [World.size_alloc]; have := HO11.out.bs.2; omega) (fun r hr => (owns_blk HO11x.out.s.own hr).1))
                       clear hown12 hgr12)
                    | fail)
                  go_roundw
                  case rel => exact ⟨q + 1, A11, c11, A9, c9, _, _, by omega, by go_num, by rw [frL_yes HKP.out, List.length_append]; rfl, by rw [HWT.out, List.length_append]; rfl, by rw [frL_yes HKP.out, HWT.out, List.length_append]; exact HO12.out, HB12.out⟩
                  case measure => simp [intOf]; omega
                | false =>
                  have HDF := Lib.hid (hdfe.symm.trans hdf)
                  clear hdf
                  have HWT := Lib.hid (wtL_same HKP.out HDF.out)
                  have hlf := frL_len z3 q
                  have HROF := Lib.hid (rOf_at (T := (tuL (shRow (polL n k t l1 l2) C) R4 l4)) HKP.out hqn)
                  have HLR := Lib.hid (show ((tuL (shRow (polL n k t l1 l2) C) R4 l4) q).length = C by rw [tuL_len, shRow_len])
                  have hlw := Nat.le_trans (wtL_len (trnB n t k l1 l2 C (tuL (shRow (polL n k t l1 l2) C) R4 l4)) z3 q) hlf
                  have HO5x := Lib.hid (HO5.out.grow (X := w8.alloc (.cells #[.int .i64 (q : Int)] 3)) ((Below.refl _ w8).alloc (Nat.le_refl _) _))
                  have HO5s := HO5.out.bs.2
                  go_wp2_with (first
                    | (at_builtin
                       refine wpList_append_own_at _ rfl (.tmp 95) (.tmp 97) 24 rfl wL.heap.size 3 i0 (.int .i64 0) 1 8 Try.underlying24 hi0 hz0 hz1 hz2 rfl (by decide) (.slice Af (frL z3 q).length cf) (frL z3 q).length (intv (frL z3 q)) rfl HO5x.out.f ⟨w8.heap.size, 0, none⟩ 1 1 [.int .i64 (q : Int)] rfl rfl (fun j u hj => by
                         match j, hj with
                         | 0, hj => simp at hj; subst hj; exact cell_new w8 _ _) (fun u hu => by simp at hu; subst hu; rfl) (by simp only [maxLen]; omega) (by omega) (by rw [World.size_alloc]; have := HO5.out.bs.2; omega) ?_
                       intro v' w11 hown hgr _ hat
                       obtain ⟨A11, c11, rfl, hO⟩ := HO5x.out.from_ (by decide) (by decide) hown hgr hat
                       have HB11 := Lib.hid ((HB5.out.trans (((Below.refl _ w8).alloc (Nat.le_refl _) _).mono HB5.out.size)).grown hgr (by rw [World.size_alloc]; have := HO5.out.bs.2; omega) (fun r hr => (owns_blk HO5x.out.f hr).1))
                       have HR11 : Hid (In w11 wL.heap.size Aq cq ((tuL (shRow (polL n k t l1 l2) C) R4 l4) q) ∨ Gw.Own w11 wL.heap.size 5 Aq cq ((tuL (shRow (polL n k t l1 l2) C) R4 l4) q)) := Lib.hid (by
                         rcases HROW.out with h | h
                         · exact .inl (h.below ⟨HB11.out.os.trans HB5.out.os.symm, HB11.out.tape.trans HB5.out.tape.symm, HB11.out.output.trans HB5.out.output.symm, by have := hgr.size; rw [World.size_alloc] at this; omega, fun b hb => (HB11.out.block b hb).trans (HB5.out.block b hb).symm⟩)
                         · exact .inr (⟨owns_other (h.alloc _).1 HO5x.out.f (by decide) hgr, h.2⟩))
                       have HO11 := Lib.hid hO
                       have HO11x := Lib.hid (HO11.out.grow (X := w11.alloc (.cells #[.slice Aq C cq] 36)) ((Below.refl _ w11).alloc (Nat.le_refl _) _))
                       have HO11s := HO11.out.bs.2
                       clear hown hgr hat hO)
                    | (at_builtin
                       refine wpList_append_own _ rfl (.tmp 99) (.tmp 101) 25 rfl wL.heap.size 36 i1 (.slice none 0 0) 1 24 Try.underlying25 hj0 hj1 hj2 hj3 rfl (by decide) (.slice Av (frL z3 q).length cv) (frL z3 q).length (rvl pa cp (rOf (frL z3 n) (tuL (shRow (polL n k t l1 l2) C) R4 l4)) (frL z3 q).length) rfl HO11x.out.s.own ⟨w11.heap.size, 0, none⟩ 1 1 [.slice Aq C cq] rfl rfl (fun j u hj => by
                         match j, hj with
                         | 0, hj => simp at hj; subst hj; exact cell_new w11 _ _) (fun u hu => by simp at hu; subst hu; rfl) (by simp only [maxLen]; omega) (by omega) (by rw [World.size_alloc]; have := HO11.out.bs.2; omega) ?_
                       intro v'' w12 hown12 hgr12 _
                       have HR12 : Hid (In w12 wL.heap.size Aq cq (rOf (frL z3 n) (tuL (shRow (polL n k t l1 l2) C) R4 l4) (frL z3 q).length) ∨ Gw.Own w12 wL.heap.size 5 Aq cq (rOf (frL z3 n) (tuL (shRow (polL n k t l1 l2) C) R4 l4) (frL z3 q).length)) := Lib.hid (by
                         rw [HROF.out]
                         rcases HR11.out with h | h
                         · exact .inl ((h.below (((Below.refl _ w11).alloc (Nat.le_refl _) _).mono HO11.out.bs.2)).below (((Below.refl _ _).grown hgr12 (by rw [World.size_alloc]; have := HO11.out.bs.2; omega) (fun r hr => (owns_blk HO11x.out.s.own hr).1))))
                         · exact .inr (⟨owns_other (h.alloc _).1 HO11x.out.s.own (by decide) hgr12, h.2⟩))
                       have HO12 := Lib.hid (HO11x.out.share (by decide) (by decide) HR12.out (by rw [HROF.out, HLR.out]; exact hown12) hgr12)
                       have HB12 := Lib.hid ((HB11.out.trans (((Below.refl _ w11).alloc (Nat.le_refl _) _).mono HB11.out.size)).grown hgr12 (by rw [World.size_alloc]; have := HO11.out.bs.2; omega) (fun r hr => (owns_blk HO11x.out.s.own hr).1))
                       clear hown12 hgr12)
                    | fail)
                  go_roundw
                  case rel => exact ⟨q + 1, A11, c11, Aw, cw, _, _, by omega, by go_num, by rw [frL_yes HKP.out, List.length_append]; rfl, by rw [HWT.out], by rw [frL_yes HKP.out, HWT.out, List.length_append]; exact HO12.out, HB12.out⟩
                  case measure => simp [intOf]; omega
                
        · obtain rfl : q = n := by omega
          have HOC := Lib.hid hoc
          have HBQ := Lib.hid hbel
          have HBW := Lib.hid (HBL_.out.trans (hbel.mono HBL_.out.size))
          have HPX := Lib.hid (HPL3.out.below hbel HPL3.out.lt)
          have hflb := frL_len z3 q
          clear hoc hbel z0
          have hwlb := wtL_len (trnB q t k l1 l2 C (tuL (shRow (polL q k t l1 l2) C) R4 l4)) z3 q
          obtain ⟨nw, hnw⟩ : ∃ nw, nw = (wtL (trnB q t k l1 l2 C (tuL (shRow (polL q k t l1 l2) C) R4 l4)) z3 q).length := ⟨_, rfl⟩
          obtain ⟨fl, hfl⟩ : ∃ fl, fl = (frL z3 q).length := ⟨_, rfl⟩
          rw [← hnw, ← hfl] at hwlb
          rw [← hfl] at hflb
          have HNW := Lib.hid hnw
          have HFL := Lib.hid hfl
          rw [← hnw, ← hfl]
          obtain ⟨p0, p1, p2, p3, p4⟩ := HPX.out
          have HPXL := Lib.hid HPX.out.lt
          by_cases hbig : e < nw
          · have hbi : (e : Int) < (nw : Int) := by omega
            clear hnw hfl
            go_wp2_with fail
            refine (answers_any wr).mono ?_
            rintro _ w6 ⟨rfl, hb6⟩
            go_wp2
            go_ret
            exact ⟨rfl, HBW.out.trans (hb6.mono HBW.out.size)⟩
          have hbi : ¬ ((e : Int) < (nw : Int)) := by omega
          obtain ⟨s, hs⟩ : ∃ s, s = t + k := ⟨_, rfl⟩
          obtain ⟨m, hm_⟩ : ∃ m, m = s + e := ⟨_, rfl⟩
          obtain ⟨dd, hdd⟩ : ∃ dd, dd = fl - nw := ⟨_, rfl⟩
          have g1 : (t : Int) + (k : Int) = (s : Int) := by omega
          have g2 : (s : Int) + (e : Int) = (m : Int) := by omega
          have g3 : (fl : Int) - (nw : Int) = (dd : Int) := by omega
          by_cases hfew : dd < m
          · have hfi : (dd : Int) < (m : Int) := by omega
            clear hnw hfl hs hm_ hdd
            go_wp2_with fail
            refine (answers_any wr).mono ?_
            rintro _ w6 ⟨rfl, hb6⟩
            go_wp2
            go_ret
            exact ⟨rfl, HBW.out.trans (hb6.mono HBW.out.size)⟩
          have hfi : ¬ ((dd : Int) < (m : Int)) := by omega
          have HFEW := Lib.hid (few_of (n := q) (t := t) (k := k) (C := C) (R := R4) (d := l1) (rnd := l2) (sk := z3) (l := l4) (fun i hi => HMT.out.bb hi))
          have HDOC := Lib.hid (docL_poly (n := q) (k := k) (t := t) (d := l1) (rnd := l2) (by omega) (by omega) HI1.out.bb HI2.out.bb)
          have HIZ := Lib.hid (HOC.out.f.inz frL_lt (by omega))
          have HMM := Lib.hid (HOC.out.s.min (Nat.le_trans HOC.out.bs.1 HOC.out.bs.2))
          have HOPL := Lib.hid (show (rOf (frL z3 q) (tuL (shRow (polL q k t l1 l2) C) R4 l4)) = rOf (frL z3 q) (tuL (shRow (polL q k t l1 l2) C) R4 l4) from rfl)
          have HFD : Hid (Fnd q t k e C (zOf (frL z3 q)) (frL z3 q).length (rOf (frL z3 q) (tuL (shRow (polL q k t l1 l2) C) R4 l4)) (polL q k t l1 l2)) := Lib.hid (HFEW.out.found ht hk (by omega) (by omega) (by omega) HLE.out (by rw [← hfl]; omega) (by rw [← wtL_cnt, ← hnw]; omega) (by rw [← wtL_cnt, ← hnw, ← hfl]; omega))
          have HWR : Hid (wrongL q (zOf (frL z3 q)) (frL z3 q).length (rOf (frL z3 q) (tuL (shRow (polL q k t l1 l2) C) R4 l4)) (polL q k t l1 l2) C = wtL (trnB q t k l1 l2 C (tuL (shRow (polL q k t l1 l2) C) R4 l4)) z3 q) := Lib.hid (HFEW.out.wrongs (by omega) rfl)
          have hN255 : N ≤ 256 := by omega
          have hOf : Hid (MIn wr wr.heap.size Av cv fl pa cp (rOf (frL z3 q) (tuL (shRow (polL q k t l1 l2) C) R4 l4))) := Lib.hid (by rw [hfl]; exact HMM.out)
          clear HMM
          have HMM := hOf
          clear hOf
          rw [← hfl] at HFD HWR
          have HFD2 := Lib.hid ((congrArg (fun x => Fnd q t k e x (zOf (frL z3 q)) fl (rOf (frL z3 q) (tuL (shRow (polL q k t l1 l2) C) R4 l4)) (polL q k t l1 l2)) HC0.out).mp HFD.out)
          have HWR2 := Lib.hid ((congrArg (fun x => wrongL q (zOf (frL z3 q)) fl (rOf (frL z3 q) (tuL (shRow (polL q k t l1 l2) C) R4 l4)) (polL q k t l1 l2) x = wtL (trnB q t k l1 l2 C (tuL (shRow (polL q k t l1 l2) C) R4 l4)) z3 q) HC0.out).mp HWR.out)
          have HOP : Hid (∀ en W W', OpAns q t k e N (zOf (frL z3 q)) fl (rOf (frL z3 q) (tuL (shRow (polL q k t l1 l2) C) R4 l4)) W en W' → ∃ v, en = .returned v ∧ O3Is N nw l1 (wtL (trnB q t k l1 l2 C (tuL (shRow (polL q k t l1 l2) C) R4 l4)) z3 q) v W' ∧ Below W.heap.size W W') := Lib.hid fun en W W' h => by
            have hd : docL q k N (polL q k t l1 l2) = l1 := by rw [HN.out]; exact HDOC.out
            have := op_yes (nw := nw) h (by omega) HFD2.out (by rw [HWR2.out, HNW.out])
            rwa [hd, HWR2.out] at this
          clear hnw hfl hs hm_ hdd
          go_wp2
          rename_i K9 hK9
          refine Gt.regionA [FIs, Gt.Is (pv (q : Int) (t : Int) (k : Int) (e : Int) (r : Int)), Gt.Is (.slice A1 N c1), Gt.Is (.int .i64 (N : Int)), Gt.Is (.slice Af fl cf), Gt.Is (.slice Av fl cv), O3Is N nw l1 (wtL (trnB q t k l1 l2 C (tuL (shRow (polL q k t l1 l2) C) R4 l4)) z3 q), O3Is N nw l1 (wtL (trnB q t k l1 l2 C (tuL (shRow (polL q k t l1 l2) C) R4 l4)) z3 q), NIs N l1, JIs nw (wtL (trnB q t k l1 l2 C (tuL (shRow (polL q k t l1 l2) C) R4 l4)) z3 q), Gt.Is (.bool true), NIs N l1, JIs nw (wtL (trnB q t k l1 l2 C (tuL (shRow (polL q k t l1 l2) C) R4 l4)) z3 q), Gt.Is (.bool true)] 152
            [⟨[], [], none⟩, ⟨[], [5], none⟩, ⟨[], [1], none⟩, ⟨[(2, 128)], [], none⟩, ⟨[], [12], none⟩, ⟨[], [14], none⟩, ⟨[(0, 126), (1, 127), (3, 129), (4, 130), (5, 131)], [], none⟩, ⟨[(6, 132)], [], none⟩, ⟨[(7, 125)], [], none⟩, ⟨[(7, 125)], [], none⟩, ⟨[(7, 125)], [], none⟩, ⟨[(8, 133)], [], none⟩, ⟨[(9, 134)], [], none⟩, ⟨[(10, 135)], [], none⟩]
            [(0, 126), (1, 127), (2, 128), (3, 129), (4, 130), (5, 131), (6, 132), (7, 125), (8, 133), (9, 134), (10, 135), (11, 17), (12, 18), (13, 19)] (by kernel_rfl) (by kernel_rfl) (by kernel_rfl) (by kernel_rfl) ?_ ?_ ?_
          · simp only [Gt.Monos]
            repeat' apply And.intro
            all_goals (first | exact trivial | exact Gt.Is.mono _ | exact FIs.mono | exact O3Is.mono _ _ _ _ | exact Z3Is.mono | exact NIs.mono _ _ | exact JIs.mono _ _ | exact EIs.mono)
          · simp only [Gt.Obs]
            repeat' apply And.intro
            all_goals try exact trivial
            all_goals (
              intro a w5 hg
              have hg' : Below wr.heap.size wr w5 := hg
              simp only [Gt.Pre, Gt.Kept, Gt.Guarded, Gt.tys, List.getD_cons_zero, List.getD_cons_succ, Gt.Is, Nat.zero_add, Nat.reduceAdd]
              intros
              try (refine ⟨fun _ => ?_, fun hne => absurd (by assumption) hne⟩))
            all_goals (first
              | exact Gt.ok_move rfl (by assumption)
              | exact Gt.ok_assign rfl (by assumption)
              | exact Gt.ok_pick rfl (by assumption) (by rw [if_pos rfl]; assumption)
              | (refine Gt.ok_call (f := 11) rfl #[] (by kernel_rfl) (by simp) ((new_any _).mono ?_)
                 rintro e w6 ⟨rfl, hF6, hb6⟩
                 exact ⟨_, rfl, hb6, _, rfl, hF6⟩)
              | (exact Gt.ok_load rfl (by assumption) (HPX.out.below hg' HPXL.out).load rfl)
              | (refine Gt.ok_run ?_ rfl
                 simp only [execOp, resolve, List.map_toArray, List.map_cons, List.map_nil, *]
                 go_simp
                 done)
              | (obtain ⟨b6, hv6, hF6⟩ : FIs (a.eval (.tmp 126)) w5 := by assumption
                 refine Gt.ok_call (f := 15) rfl #[.pointer (some ⟨b6, 0, none⟩), pv (q : Int) (t : Int) (k : Int) (e : Int) (r : Int), .int .i64 (N : Int), .slice Af fl cf, .slice Av fl cv] (by kernel_rfl) (by simp [*] <;> rfl) ((oopen_any q t k e r fl N hg0 b6 Af Av cf cv fl (zOf (frL z3 q)) (by rw [zOf_len, HFL.out]) pa cp (rOf (frL z3 q) (tuL (shRow (polL q k t l1 l2) C) R4 l4)) w5 hF6 ((HIZ.out.below hg').more hg'.size) ((HMM.out.below hg').more hg'.size) (by omega) (by omega) (by omega)).mono ?_)
                 rintro en w6 h6
                 obtain ⟨v, h7, h8, h9⟩ := HOP.out _ _ _ h6
                 exact ⟨v, h7, h9, h8⟩)
              | (obtain ⟨A6, c6, A7, c7, hv6, hM6, hJ6⟩ : O3Is N nw l1 (wtL (trnB q t k l1 l2 C (tuL (shRow (polL q k t l1 l2) C) R4 l4)) z3 q) (a.eval (.tmp 125)) w5 := by assumption
                 refine Gt.ok_run (v := .slice A6 N c6) ?_ ⟨A6, c6, rfl, hM6⟩
                 simp only [execOp, hv6]
                 go_simp
                 done)
              | (obtain ⟨A6, c6, A7, c7, hv6, hM6, hJ6⟩ : O3Is N nw l1 (wtL (trnB q t k l1 l2 C (tuL (shRow (polL q k t l1 l2) C) R4 l4)) z3 q) (a.eval (.tmp 125)) w5 := by assumption
                 refine Gt.ok_run (v := .slice A7 nw c7) ?_ ⟨A7, c7, rfl, hJ6⟩
                 simp only [execOp, hv6]
                 go_simp
                 done)
              | (obtain ⟨A6, c6, A7, c7, hv6, hM6, hJ6⟩ : O3Is N nw l1 (wtL (trnB q t k l1 l2 C (tuL (shRow (polL q k t l1 l2) C) R4 l4)) z3 q) (a.eval (.tmp 125)) w5 := by assumption
                 refine Gt.ok_run (v := .bool true) ?_ rfl
                 simp only [execOp, hv6]
                 go_simp
                 done))
          · intro a w5 hg
            have hg' : Below wr.heap.size wr w5 := hg
            simp only [Gt.Pre, Gt.tys, List.getD_cons_zero, List.getD_cons_succ, Gt.Is]
            intro h0 h1 h2 h3 h4 h5 h6 h7 h8 h9 h10 h11 h12 h13
            show K9 _ _
            refine hK9 _ _ ?_
            obtain ⟨_, h0, _⟩ := h0
            obtain ⟨_, _, _, _, h6, _⟩ := h6
            obtain ⟨_, _, _, _, h7, _⟩ := h7
            obtain ⟨_, _, h8, _⟩ := h8
            obtain ⟨_, _, h9, _⟩ := h9
            obtain ⟨Ad, cd, h11, hId⟩ := h11
            obtain ⟨Ax, cx, h12, hJx⟩ := h12
            simp only [Gt.puts, List.foldl_cons, List.foldl_nil, h0, h1, h2, h3, h4, h5, h6, h7, h8, h9, h10, h11, h12, h13]
            simp only [Act.put, List.setIfInBounds_toArray, List.set_cons_zero, List.set_cons_succ]
            have HB9 := Lib.hid (HBW.out.trans (hg'.mono HBW.out.size))
            have HI9 := Lib.hid ((HI1.out.below (HB9.out)).more HB9.out.size)
            have HID := Lib.hid hId
            have HJX := Lib.hid hJx
            clear hId hJx
            have HWJ := Lib.hid (HOC.out.w.inn.below hg')
            clear h0 h1 h2 h3 h4 h5 h6 h7 h8 h9 h10 h11 h12 h13 hg
            obtain ⟨w9, hw9⟩ : ∃ w9, w9 = w5 := ⟨_, rfl⟩
            rw [← hw9] at HB9 HI9 HID HJX HWJ ⊢
            clear hw9 hg'
            go_wp2_with fail
            refine (answers_any w9).mono ?_
            rintro _ w10 ⟨rfl, hb10⟩
            have HB10 := Lib.hid (HB9.out.trans (hb10.mono HB9.out.size))
            have hk1 := conv_sl (P := Try.prog) (HID.out.below hb10).sl Try.underlying36 Try.underlying5 Try.underlying9 cd
            have hk2 := conv_sl (P := Try.prog) (HI9.out.below hb10).sl Try.underlying36 Try.underlying5 Try.underlying9 c1
            rw [← HN.out] at hk1 hk2
            obtain ⟨σ9, hσ9⟩ : ∃ σ9, σ9 = str l1 := ⟨_, rfl⟩
            rw [← hσ9] at hk1 hk2
            clear hσ9
            have hst9 : (σ9.toList == σ9.toList) = true := by simp
            have HSI := Lib.hid (sameInts_any Ax Aw cx cw (wtL (trnB q t k l1 l2 C (tuL (shRow (polL q k t l1 l2) C) R4 l4)) z3 q) (wtL (trnB q t k l1 l2 C (tuL (shRow (polL q k t l1 l2) C) R4 l4)) z3 q) w10 (HJX.out.below hb10) (HWJ.out.below hb10) (by rw [← HNW.out]; omega))
            rw [decide_eq_true rfl, ← HNW.out] at HSI
            clear hb10
            go_wp2_with fail
            refine HSI.out.mono ?_
            rintro _ w11 ⟨rfl, d, rfl⟩
            go_wp2
            go_ret
            exact ⟨rfl, Gw.Below.drewN HB10.out d⟩
            
      
    
theorem walk (a0 T0 K0 E0 R0 : Int) (A1 : Option Addr) (c1 : Nat) (l1 : List Nat) (A2 : Option Addr) (c2 : Nat) (l2 : List Nat) (A3 : Option Addr) (c3 : Nat) (z3 : List Bool) (A4 : Option Addr) (c4 R4 : Nat) (P4 : Nat → Option Addr) (n4 : Nat → Nat) (l4 : Nat → List Nat) (w : World) (_w0 : (Lit.int .i64 a0).wf = true ∧ (Lit.int .i64 T0).wf = true ∧ (Lit.int .i64 K0).wf = true ∧ (Lit.int .i64 E0).wf = true ∧ (Lit.int .i64 R0).wf = true) (w1 : In w w.heap.size A1 c1 l1) (_s1 : c1 ≤ 140737488351232) (w2 : In w w.heap.size A2 c2 l2) (_s2 : c2 ≤ 140737488351232) (w3 : InB w w.heap.size A3 c3 z3) (s3 : c3 ≤ 140737488351232) (w4 : MIn w w.heap.size A4 c4 R4 P4 n4 l4) (s4 : c4 ≤ 5864062014634) (_b4 : ∀ i, BB (l4 i)) :
    Calls Try.prog 5 #[pv a0 T0 K0 E0 R0, .slice A1 l1.length c1, .slice A2 l2.length c2, .slice A3 z3.length c3, .slice A4 R4 c4] w fun e w' => e = .returned (.bool true) ∧ Below w.heap.size w w' := by
  have hc3 := w3.cap
  have hc4 := w4.cap
  cases hg : goodB a0 T0 K0 E0 R0 with
  | false => exact side_bad a0 T0 K0 E0 R0 hg A1 c1 _ A2 c2 _ A3 c3 _ A4 c4 R4 w
  | true =>
    obtain ⟨n, t, k, e, r, rfl, rfl, rfl, rfl, rfl, h1, h2, h3, h4, h5, h6⟩ := goodB_nat hg
    by_cases hn : n ≤ 30
    · by_cases hl : l1.length ≤ 30
      · by_cases hM : l2.length = t * Sp.cnt l1.length k
        · exact side_main n t k e r hg h1 h2 h5 h6 hn A1 c1 _ l1 A2 c2 _ l2 A3 c3 _ z3 A4 c4 R4 P4 n4 l4 w rfl rfl rfl hl _ rfl hM w1 w2 w3 w4 (by omega) (by omega)
        · exact side_miss n t k e r hg hn (by omega) h2 (by omega) _ A1 c1 _ A2 c2 _ A3 c3 _ A4 c4 R4 w hl rfl hM
      · exact side_long n t k e r hg hn A1 c1 _ A2 c2 _ A3 c3 _ A4 c4 R4 w (by omega)
    · exact side_big n t k e r hg (by omega) A1 c1 _ A2 c2 _ A3 c3 _ A4 c4 R4 w

set_option maxRecDepth 100000 in
theorem lifted (os : Os) (started : os.Started) (H : Type) (enc : TypeId × Value → H) :
    ReturnsInHanded {} Try.checked os 5 .any (Rows.openCorrectsSpec.pre6 enc Try.prog Try.f5 Rows.openCorrectsRow.domain false) (Rows.openCorrectsSpec.post enc Try.prog Try.f5 false true false false) := by
  refine returnsInHanded_of_change_sized (C := Try.checked) own started (by kernel_rfl) Try.func5
    (ChangeSpec.witness6 (enc := enc) (C := Try.checked) false ⟨#[], #[.agg #[.int .i64 0, .int .i64 0, .int .i64 0, .int .i64 0, .int .i64 0], .slice none 0 0, .slice none 0 0, .slice none 0 0, .slice none 0 0], []⟩ 8 (by kernel_rfl) (by kernel_rfl) (by kernel_rfl) (by kernel_rfl)) ?_
  intro W base args ds gs before hval0 hW _hcnd hsz0 _
  have hval : ∀ (j : Nat) t v, Try.f5.params[j]? = some t → args[j]? = some v → Value.okWide Try.prog W .any base t v := hval0
  have hW' := hW
  obtain ⟨p, q, hA0, hV, rfl, _hfz, _hnd⟩ := hW
  have hA : DataW.TrodAll enc Try.prog W 0 (fun _ => true) true Try.f5.params.toList args.toList ds p := hA0
  have hsz : (DataW.weightsEach Try.prog (Try.f5.params.toList ++ Rows.openCorrectsSpec.plain.varTypes Try.prog) (ds ++ gs)).all (· ≤ reachBytes) = true := hsz0
  rw [Try.params5] at hA hval hsz
  obtain ⟨v0, vs0, d0, ds0, p0, q0, hargs, rfl, rfl, h0, r0⟩ := trodAll_cons hA
  obtain ⟨v1, vs1, d1, ds1, p1, q1, rfl, rfl, rfl, h1, r1⟩ := trodAll_cons r0
  obtain ⟨v2, vs2, d2, ds2, p2, q2, rfl, rfl, rfl, h2, r2⟩ := trodAll_cons r1
  obtain ⟨v3, vs3, d3, ds3, p3, q3, rfl, rfl, rfl, h3, r3⟩ := trodAll_cons r2
  obtain ⟨v4, vs4, d4, ds4, p4, q4, rfl, rfl, rfl, h4, r4⟩ := trodAll_cons r3
  obtain ⟨rfl, rfl, rfl⟩ := trodAll_nil r4
  obtain rfl : args = #[v0, v1, v2, v3, v4] := by cases args; simp_all
  obtain ⟨rfl, rfl⟩ := trodVars_none hV
  obtain ⟨a0, T0, K0, E0, R0, rfl, rfl, rfl, w0⟩ := open_five Try.underlying23 (by kernel_rfl) (by kernel_rfl) rfl rfl rfl rfl rfl Try.underlying3 (hval 0 23 v0 rfl rfl) h0
  have k1 := h1
  have lt1 : ∀ x ∈ p1, x.block < W.heap.size := by obtain ⟨m, hm⟩ := k1; exact DataW.trod_lt m _ _ _ hm
  obtain ⟨A1, c1, l1, rfl, w1, sz1⟩ := open_bytes Try.underlying36 Try.underlying5 (by kernel_rfl) (hval 1 36 v1 rfl rfl) h1
  have s1 := sized_bytes hsz (j := 1) (t := 36) (e := 5) rfl rfl Try.underlying36 (by kernel_rfl) sz1
  have k2 := h2
  have lt2 : ∀ x ∈ p2, x.block < W.heap.size := by obtain ⟨m, hm⟩ := k2; exact DataW.trod_lt m _ _ _ hm
  obtain ⟨A2, c2, l2, rfl, w2, sz2⟩ := open_bytes Try.underlying36 Try.underlying5 (by kernel_rfl) (hval 2 36 v2 rfl rfl) h2
  have s2 := sized_bytes hsz (j := 2) (t := 36) (e := 5) rfl rfl Try.underlying36 (by kernel_rfl) sz2
  have k3 := h3
  have lt3 : ∀ x ∈ p3, x.block < W.heap.size := by obtain ⟨m, hm⟩ := k3; exact DataW.trod_lt m _ _ _ hm
  obtain ⟨A3, c3, z3, rfl, w3, sz3⟩ := open_boolz Try.underlying45 Try.underlying4 (by kernel_rfl) (hval 3 45 v3 rfl rfl) h3
  have s3 := sized_bytes hsz (j := 3) (t := 45) (e := 4) rfl rfl Try.underlying45 (by kernel_rfl) sz3
  have k4 := h4
  have lt4 : ∀ x ∈ p4, x.block < W.heap.size := by obtain ⟨m, hm⟩ := k4; exact DataW.trod_lt m _ _ _ hm
  obtain ⟨A4, c4, R4, P4, n4, l4, rfl, w4, b4, sz4, sh4⟩ := open_rows Try.underlying25 Try.underlying36 Try.underlying5 (by kernel_rfl) (by kernel_rfl) (hval 4 25 v4 rfl rfl) h4
  have s4 := sized_rows hsz (j := 4) (t := 25) (e := 36) rfl rfl Try.underlying25 (by kernel_rfl) sz4
  clear hA0 hval0 hsz0 hsz
  refine (walk a0 T0 K0 E0 R0 A1 c1 l1 A2 c2 l2 A3 c3 z3 A4 c4 R4 P4 n4 l4 W w0 w1 s1 w2 s2 w3 s3 w4 s4 b4).mono fun e W' ⟨he, bel⟩ => ?_
  subst he
  exact ⟨_, rfl, _, _, _, [], _, [], hW', trodAll_mk1 (shut_bool Try.underlying4 _), (trodAll_cons_mk (shut_five Try.underlying23 (by kernel_rfl) (by kernel_rfl) rfl rfl rfl rfl rfl Try.underlying3 w0) (trodAll_cons_mk (Below.trod laidOut (by kernel_rfl) (of_decide_eq_true (by kernel_rfl)) k1 bel lt1) (trodAll_cons_mk (Below.trod laidOut (by kernel_rfl) (of_decide_eq_true (by kernel_rfl)) k2 bel lt2) (trodAll_cons_mk (Below.trod laidOut (by kernel_rfl) (of_decide_eq_true (by kernel_rfl)) k3 bel lt3) (trodAll_cons_mk (Below.trod laidOut (by kernel_rfl) (of_decide_eq_true (by kernel_rfl)) k4 bel lt4) trodAll_mk0))))), rfl, bel.frame _, fun h => by cases h⟩

theorem over : Rows.openCorrectsRow.holds Try.pinned (OpenSpec.ofChange Rows.openCorrectsSpec) :=
  OpenClaim.holds_of_wide 5 Try.f5 rfl rfl rfl rfl rfl rfl rfl ⟨rfl, rfl, rfl, rfl, rfl⟩ rfl rfl rfl rfl rfl (by kernel_rfl) Try.func5 (by kernel_rfl)
    (of_decide_eq_true (by kernel_rfl)) (by unfold Func.isWrapper; first | (rw [if_pos (by decide +kernel)]; kernel_rfl) | (rw [if_neg (by decide +kernel)]; exact ⟨rfl, rfl⟩))
    (fun os started H enc _ => lifted os started H enc)

end Go.Proofs.Ytgikgnhpplmljaa.openCorrects
namespace Go.Proofs.Ytgikgnhpplmljaa
/-- The statement. -/
theorem openCorrects_holds : Rows.OpenCorrectsSaid := openCorrects.over
#print axioms openCorrects_holds
end Go.Proofs.Ytgikgnhpplmljaa

