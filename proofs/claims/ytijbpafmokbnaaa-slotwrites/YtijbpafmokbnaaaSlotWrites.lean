/- For every input SlotWrites returns true, and every argument reads behind the call as it did before: no condition. -/
import Derived.Test.YtijbpafmokbnaaaRows
import Derived.ProofKit
import Derived.OpenShut
import Derived.SizedLaws
import Derived.ChangeOld
import Derived.Carry
import Derived.Test.YtijbpafmokbnaaaLawb
import Derived.Test.YtijbpafmokbnaaaSkm
import Derived.Test.YtijbpafmokbnaaaGtw
import Derived.Test.YtijbpafmokbnaaaGtv
import Derived.BigQuiet
namespace Go.Proofs.Ytijbpafmokbnaaa.slotWrites
open Go.ChangeShapes Go.WideShapes Go.ChangeAt Go.RowKit Go.Shelf Gw Pol Go.BigFrame

theorem own : ownKnob Try.prog.godebug = none := by kernel_rfl
theorem laidOut : laidOutB Try.prog = true := by kernel_rfl
/-- A row that is read where a predicate of the world holds, which growth bears. -/
def LdS (n : Nat) (K : List Nat) (S : World → Prop) : Value → World → Prop := fun v w => (∃ A c, v = .slice A n c ∧ In w w.heap.size A c K) ∧ S w
theorem LdS.mono {n : Nat} {K : List Nat} {S : World → Prop} (hS : ∀ w w', S w → Below w.heap.size w w' → S w') : ∀ v w w', LdS n K S v w → (S w → Below w.heap.size w w') → LdS n K S v w' := by
  rintro v w w' ⟨⟨A, c, rfl, h⟩, hs⟩ hr
  exact ⟨⟨A, c, rfl, (h.below (hr hs)).more (hr hs).size⟩, hS _ _ hs (hr hs)⟩
set_option maxRecDepth 100000 in
set_option maxHeartbeats 2000000 in
theorem walk (a0 : Int) (A1 : Option Addr) (c1 : Nat) (l1 : List Nat) (A2 : Option Addr) (c2 : Nat) (l2 : List Nat) (w : World) (_w0 : (Lit.int .i64 a0).wf = true) (w1 : In w w.heap.size A1 c1 l1) (s1 : c1 ≤ 140737488351232) (w2 : In w w.heap.size A2 c2 l2) (s2 : c2 ≤ 140737488351232) :
    Calls Try.prog 4 #[.int .i64 a0, .slice A1 l1.length c1, .slice A2 l2.length c2] w fun e w' => e = .returned (.bool true) ∧ Below w.heap.size w w' := by
  obtain ⟨r, hr⟩ : ∃ r, r = min a0.toNat 512 := ⟨_, rfl⟩
  obtain ⟨n1, hn1⟩ : ∃ n1, n1 = l1.length := ⟨_, rfl⟩
  obtain ⟨n2, hn2⟩ : ∃ n2, n2 = l2.length := ⟨_, rfl⟩
  rw [← hn1, ← hn2]
  have HR5 := Lib.hid (show r ≤ 512 by rw [hr]; exact Nat.min_le_right _ _)
  have HNW := Lib.hid (sq_new a0 r hr w)
  have HRN := Lib.hid (show ∀ w, Calls Try.prog 9 #[.int .i64 a0] w fun e w' => e = .returned (.pointer (some ⟨w.heap.size, 0, none⟩)) ∧ Rb w' w.heap.size (r : Int) (-1) 0 false false (.slice none 0 0) ∧ Below w.heap.size w w' from fun w => by rw [show r = nr a0 from hr]; exact rnew_any a0 w)
  have HI1 := Lib.hid w1
  have HI2 := Lib.hid w2
  have HC1 := Lib.hid s1
  have HC2 := Lib.hid s2
  have HN1 := Lib.hid hn1
  have HN2 := Lib.hid hn2
  clear hr hn1 hn2 w1 w2 s1 s2 _w0
  go_enter Try.func4, Try.ntmps4
  go_wp2_with fail
  refine HNW.out.mono ?_
  rintro e w1 ⟨z, p, g, rfl, hq1, hz, hp, hg, hb1⟩
  have HZ := Lib.hid hz
  have HP := Lib.hid hp
  have HG := Lib.hid hg
  have HQ1 := Lib.hid hq1
  have HB1 := Lib.hid hb1
  clear hz hp hg hq1 hb1
  go_wp2_with fail
  refine (HRN.out w1).mono ?_
  rintro e w2 ⟨rfl, hrb, hb2⟩
  obtain ⟨q, hqq⟩ : ∃ q, q = w1.heap.size := ⟨_, rfl⟩
  rw [← hqq] at hrb ⊢
  obtain ⟨B0, hB0⟩ : ∃ B0, B0 = w2.heap.size := ⟨_, rfl⟩
  have hlt := HQ1.out.lt
  have HQ2 := Lib.hid (HQ1.out.below hb2 (Nat.le_refl _))
  have HRS := Lib.hid (show Rs w2 q q B0 r ⟨-1, false, 0⟩ [] from Rs.new hrb (by rw [hB0]; exact hrb.lt) HR5.out)
  have HB2 := Lib.hid (HB1.out.trans (hb2.mono HB1.out.size))
  have HDJ := Lib.hid (show (z < B0 ∧ p < B0 ∧ g < B0) ∧ (q ≠ z ∧ q ≠ p ∧ q ≠ g) ∧ w.heap.size ≤ q by have := hb2.size; have := HB1.out.size; omega)
  have HB0 := Lib.hid (show B0 ≤ w2.heap.size by omega)
  clear hrb hb2 hqq hB0 hlt HQ1 HB1 HNW HRN
  have hd := HDJ.out
  obtain ⟨e1, u1, K1, hu1, hk1, hs1, hd1⟩ := sw_step w z p g q B0 r 0 [] A1 n1 c1 l1 HN1.out HI1.out (by have := HC1.out; omega) (by omega) HR5.out (by show tk 0 ≤ r; unfold tk; omega) ⟨HZ.out, HP.out, HG.out, hd.2.2⟩ hd.1 hd.2.1
  obtain ⟨e2, u2, K2, hu2, hk2, hs2, hd2⟩ := sw_step w z p g q B0 r u1 K1 A2 n2 c2 l2 HN2.out HI2.out (by have := HC2.out; omega) (by omega) HR5.out hk1 ⟨HZ.out, HP.out, HG.out, hd.2.2⟩ hd.1 hd.2.1
  have HS1 := Lib.hid hs1
  have HD1 := Lib.hid hd1
  have HS2 := Lib.hid hs2
  have HD2 := Lib.hid hd2
  have HW2 := Lib.hid (show SW w z p g q B0 r 0 0 [] [] w2 from ⟨HQ2.out, ⟨q, HRS.out⟩, HB2.out, HB0.out⟩)
  clear hd hu1 hk1 hs1 hd1 hu2 hk2 hs2 hd2 HQ2 HRS HB2 HI1 HI2 HC1 HC2 HN1 HN2
  go_wp2
  rename_i K hK
  refine Gt.regionW (fun k => ([SW w z p g q B0 r 0 0 [] [], SW w z p g q B0 r u1 0 K1 [], SW w z p g q B0 r u1 u1 K1 K1] : List (World → Prop)).getD k (fun _ => False)) [Gt.Is (.pointer (some ⟨z, 0, none⟩)), Gt.Is (.slice A1 n1 c1), Gt.Is (.int .i64 e1), Gt.Is (.pointer (some ⟨q, 0, none⟩)), Gt.Is (.slice A1 n1 c1), Gt.Is (.agg #[.int .i64 1, .int .i64 0, .int .u8 0, .slice A1 n1 c1]), Gt.Is (.int .i64 e1), Gt.Is (.bool false), Gt.Is (.bool false), Gt.Is (.pointer (some ⟨z, 0, none⟩)), Gt.Is (.pointer (some ⟨p, 0, none⟩)), Gt.Is (.int .i64 (u1 : Int)), Gt.Is (.pointer (some ⟨q, 0, none⟩)), Gt.Is (.pointer (some ⟨q, 0, none⟩)), Gt.Is (.pointer (some ⟨q, 2, none⟩)), Gt.Is (.int .i64 (u1 : Int)), Gt.Is (.bool false), Gt.Is (.bool false)] [2, 6] [0, 0, 0, 0, 0, 0, 1, 2, 2, 2, 2, 2, 2, 2, 2, 2, 2, 2] [0, 0, 0, 1, 2, 1, 1, 2, 2, 2, 2, 2, 2, 2, 2, 2, 2, 2] 2 69
    [⟨[], [7], none⟩, ⟨[], [1], none⟩, ⟨[(0, 14), (1, 15)], [], none⟩, ⟨[], [8], none⟩, ⟨[], [1], none⟩, ⟨[(4, 18)], [], none⟩, ⟨[(3, 17), (5, 19)], [], none⟩, ⟨[(2, 16), (6, 20)], [], none⟩, ⟨[(7, 21)], [], none⟩, ⟨[(8, 22)], [7], some (22, false)⟩, ⟨[(8, 22), (9, 23)], [], some (22, false)⟩, ⟨[(8, 22), (10, 24)], [], some (22, false)⟩, ⟨[(8, 22)], [8], some (22, false)⟩, ⟨[(8, 22), (12, 26)], [], some (22, false)⟩, ⟨[(8, 22), (13, 27)], [], some (22, false)⟩, ⟨[(8, 22), (14, 28)], [], some (22, false)⟩, ⟨[(8, 22), (11, 25), (15, 29)], [], some (22, false)⟩, ⟨[(8, 22), (16, 30)], [], none⟩]
    [(0, 14), (1, 15), (2, 16), (3, 17), (4, 18), (5, 19), (6, 20), (7, 21), (8, 22), (9, 23), (10, 24), (11, 25), (12, 26), (13, 27), (14, 28), (15, 29), (16, 30), (17, 31)] (by kernel_rfl) (by kernel_rfl) rfl (by kernel_rfl) (by kernel_rfl) (by kernel_rfl) ?_ ?_ ?_ ?_
  · simp only [Gt.Firm]
    refine ⟨?_, ?_, ?_, ?_, ?_, ?_, ?_, ?_, ?_, ?_, ?_, ?_, ?_, ?_, ?_, ?_, ?_, ?_, trivial⟩
    all_goals (first
      | exact fun h => absurd h (by decide)
      | exact fun _ _ _ _ h => h
      | exact fun _ _ _ _ _ => trivial)
  · show (SW w z p g q B0 r 0 0 [] []) _
    exact HW2.out.drew
  · simp only [Gt.ObsW]
    refine ⟨?_, ?_, ?_, ?_, ?_, ?_, ?_, ?_, ?_, ?_, ?_, ?_, ?_, ?_, ?_, ?_, ?_, ?_, trivial⟩
    all_goals (first
      | (refine ⟨fun _ k hlo hhi a w5 hw => ?_, fun h => absurd h (by decide)⟩)
      | (refine ⟨fun h => absurd h (by decide), fun _ y hy hlt a w5 hw => ?_⟩
         have hyj : Gt.at0 [2, 6] y = 2 := hy
         have hlt' : y < 2 := hlt
         obtain rfl : y = 0 := by
           rcases (show y = 0 ∨ y = 1 by omega) with rfl | rfl
           · first | rfl | (exact absurd hyj (by decide))
           · first | rfl | (exact absurd hyj (by decide))
         have hw' : (SW w z p g q B0 r 0 0 [] []) w5 := hw)
      | (refine ⟨fun h => absurd h (by decide), fun _ y hy hlt a w5 hw => ?_⟩
         have hyj : Gt.at0 [2, 6] y = 6 := hy
         have hlt' : y < 2 := hlt
         obtain rfl : y = 1 := by
           rcases (show y = 0 ∨ y = 1 by omega) with rfl | rfl
           · first | rfl | (exact absurd hyj (by decide))
           · first | rfl | (exact absurd hyj (by decide))
         have hw' : (SW w z p g q B0 r u1 0 K1 []) w5 := hw))
    all_goals simp only [Gt.Pre, Gt.Kept, Gt.Guarded, Gt.tys, List.getD_cons_zero, List.getD_cons_succ, Gt.Is, Nat.zero_add, Nat.reduceAdd]
    · intros
      exact Gt.okw_move rfl (by assumption)
    · intros
      exact Gt.okw_move rfl (by assumption)
    · intros
      refine Gt.okt_call (f := 12) rfl #[.pointer (some ⟨z, 0, none⟩), .slice A1 n1 c1] (by kernel_rfl) (by simp [*]) ((HS1.out w5 hw').mono ?_)
      rintro e w6 ⟨h1, h2⟩
      exact ⟨_, h1, h2, rfl⟩
    · intros
      exact Gt.okw_move rfl (by assumption)
    · intros
      exact Gt.okw_move rfl (by assumption)
    · intros
      rename_i h18
      have e18 : a.tmps[18]?.getD undef = .slice A1 n1 c1 := by simpa [Act.eval] using h18
      refine Gt.okw_run ?_ rfl
      simp only [execOp, *]
      go_simp
      done
    · intros
      refine Gt.okt_call (f := 11) rfl #[.pointer (some ⟨q, 0, none⟩), .agg #[.int .i64 1, .int .i64 0, .int .u8 0, .slice A1 n1 c1]] (by kernel_rfl) (by simp [*]) ((HD1.out w5 hw').mono ?_)
      rintro e w6 ⟨h1, h2, -⟩
      exact ⟨_, h1, h2, rfl⟩
    intros
    refine Gt.okw_run ?_ (by first | rfl | trivial)
    rotate_left
    · intros
      exact Gt.okw_move rfl (by assumption)
    · intros
      refine Gt.guard_yes (by assumption) ?_
      exact Gt.okw_move rfl (by assumption)
    · intros
      refine Gt.guard_yes (by assumption) ?_
      obtain rfl : k = 2 := Nat.le_antisymm hhi hlo
      have hw' : (SW w z p g q B0 r u1 u1 K1 K1) w5 := hw
      obtain ⟨k6, hr6⟩ := SW.rs hw'
      obtain ⟨d6, Ak6, ck6, hb6, -, -⟩ := hr6.box
      have c62 : w5.cell? ⟨q, 2, none⟩ = some (.int .i64 (u1 : Int)) := hb6.cell 2
      refine Gt.okt_call (f := 18) rfl #[.pointer (some ⟨z, 0, none⟩)] (by kernel_rfl) (by simp [*]) ((sq_disk z p g r K1 _ w5 (SW.sq hw')).mono ?_)
      rintro e w6 ⟨h1, h2⟩
      exact ⟨_, h1, h2, rfl⟩
    · intros
      refine Gt.guard_yes (by assumption) ?_
      obtain rfl : k = 2 := Nat.le_antisymm hhi hlo
      have hw' : (SW w z p g q B0 r u1 u1 K1 K1) w5 := hw
      obtain ⟨k6, hr6⟩ := SW.rs hw'
      obtain ⟨d6, Ak6, ck6, hb6, -, -⟩ := hr6.box
      have c62 : w5.cell? ⟨q, 2, none⟩ = some (.int .i64 (u1 : Int)) := hb6.cell 2
      refine Gt.okt_call (f := 19) rfl #[.pointer (some ⟨p, 0, none⟩)] (by kernel_rfl) (by simp [*]) ((sq_writes z p g r K1 _ w5 (SW.sq hw')).mono ?_)
      rintro e w6 ⟨h1, h2⟩
      exact ⟨_, h1, h2, rfl⟩
    · intros
      refine Gt.guard_yes (by assumption) ?_
      exact Gt.okw_move rfl (by assumption)
    intros
    refine Gt.guard_yes (by assumption) ?_
    refine Gt.okw_run ?_ (by first | rfl | trivial)
    rotate_left
    intros
    refine Gt.guard_yes (by assumption) ?_
    refine Gt.okw_run ?_ (by first | rfl | trivial)
    rotate_left
    intros
    refine Gt.guard_yes (by assumption) ?_
    obtain rfl : k = 2 := Nat.le_antisymm hhi hlo
    have hw' : (SW w z p g q B0 r u1 u1 K1 K1) w5 := hw
    obtain ⟨k6, hr6⟩ := SW.rs hw'
    obtain ⟨d6, Ak6, ck6, hb6, -, -⟩ := hr6.box
    have c62 : w5.cell? ⟨q, 2, none⟩ = some (.int .i64 (u1 : Int)) := hb6.cell 2
    refine Gt.okw_run ?_ (by first | rfl | trivial)
    rotate_left
    intros
    refine Gt.guard_yes (by assumption) ?_
    refine Gt.okw_run ?_ (by first | rfl | trivial)
    rotate_left
    · intros
      first | exact Gt.okw_pick rfl (by assumption) (by rw [if_pos rfl]; first | assumption | rfl) | exact Gt.okw_pick rfl (by assumption) (by rw [if_neg (by simp)]; first | assumption | rfl)
    all_goals (
      simp only [execOp, *]
      go_simp
      done)
  · intro a w5 hw
    have hw' : (SW w z p g q B0 r u1 u1 K1 K1) w5 := hw
    simp only [Gt.Pre, Gt.tys, List.getD_cons_zero, List.getD_cons_succ, Gt.Is]
    intro h0 h1 h2 h3 h4 h5 h6 h7 h8 h9 h10 h11 h12 h13 h14 h15 h16 h17
    show K _ _
    refine hK _ _ ?_
    simp only [Gt.puts, List.foldl_cons, List.foldl_nil, h0, h1, h2, h3, h4, h5, h6, h7, h8, h9, h10, h11, h12, h13, h14, h15, h16, h17]
    simp only [Act.put, List.setIfInBounds_toArray, List.set_cons_zero, List.set_cons_succ]
    have HW5 := Lib.hid hw'
    clear hw hw'
    go_wp2_with fail
    refine (HS2.out w5 HW5.out).mono ?_
    rintro e w7 ⟨rfl, hw7⟩
    have HW7 := Lib.hid hw7
    clear hw7 HW5
    obtain ⟨nk, hnk⟩ : ∃ nk, nk = K2.length := ⟨_, rfl⟩
    obtain ⟨σ, hσ⟩ : ∃ σ, σ = str K2 := ⟨_, rfl⟩
    have HNK := Lib.hid hnk
    have HSG := Lib.hid hσ
    clear hnk hσ
    go_wp2
    rename_i KK hKK
    refine Gt.regionV (fun w5 w6 => (SW w z p g q B0 r u2 u2 K2 K2) w5 → Below w5.heap.size w5 w6) (fun k => ([SW w z p g q B0 r u2 u1 K2 K1, SW w z p g q B0 r u2 u2 K2 K2] : List (World → Prop)).getD k (fun _ => False)) [Gt.Is (.bool true), Gt.Is (.bool true), Gt.Is (.int .i64 e2), Gt.Is (.pointer (some ⟨q, 0, none⟩)), Gt.Is (.slice A2 n2 c2), Gt.Is (.agg #[.int .i64 1, .int .i64 0, .int .u8 0, .slice A2 n2 c2]), Gt.Is (.int .i64 e2), Gt.Is (.bool true), Gt.Is (.bool true), Gt.Is (.bool true), Gt.Is (.pointer (some ⟨z, 0, none⟩)), Gt.Is (.pointer (some ⟨p, 0, none⟩)), Gt.Is (.int .i64 (u2 : Int)), Gt.Is (.pointer (some ⟨q, 0, none⟩)), Gt.Is (.pointer (some ⟨q, 0, none⟩)), Gt.Is (.pointer (some ⟨q, 2, none⟩)), Gt.Is (.int .i64 (u2 : Int)), Gt.Is (.bool true), Gt.Is (.bool true), Gt.Is (.bool true), Gt.Is (.pointer (some ⟨z, 0, none⟩)), Gt.Is (.bool true), Gt.Is (.bool true), Gt.Is (.bool true), Gt.Is (.pointer (some ⟨z, 0, none⟩)), LdS nk K2 (SW w z p g q B0 r u2 u2 K2 K2), Gt.Is (.string σ), Gt.Is (.pointer (some ⟨q, 0, none⟩)), Gt.Is (.pointer (some ⟨q, 0, none⟩)), Gt.Is (.pointer (some ⟨q, 5, none⟩)), LdS nk K2 (SW w z p g q B0 r u2 u2 K2 K2), Gt.Is (.string σ), Gt.Is (.bool true), Gt.Is (.bool true)] [6] [0, 0, 0, 0, 0, 0, 0, 1, 1, 1, 1, 1, 1, 1, 1, 1, 1, 1, 1, 1, 1, 1, 1, 1, 1, 1, 1, 1, 1, 1, 1, 1, 1, 1, 1] [1, 0, 1, 0, 1, 0, 0, 1, 1, 1, 1, 1, 1, 1, 1, 1, 1, 1, 1, 1, 1, 1, 1, 1, 1, 1, 1, 1, 1, 1, 1, 1, 1, 1, 1] 1 69 34
      [⟨[], [], none⟩, ⟨[(0, 35)], [], none⟩, ⟨[(1, 36)], [9], some (36, true)⟩, ⟨[(1, 36)], [8], some (36, true)⟩, ⟨[(1, 36)], [2], some (36, true)⟩, ⟨[(1, 36), (4, 39)], [], some (36, true)⟩, ⟨[(1, 36), (3, 38), (5, 40)], [], some (36, true)⟩, ⟨[(1, 36), (2, 37), (6, 41)], [], some (36, true)⟩, ⟨[(1, 36), (7, 42)], [], none⟩, ⟨[(8, 43)], [], none⟩, ⟨[(9, 44)], [7], some (44, true)⟩, ⟨[(9, 44), (10, 45)], [], some (44, true)⟩, ⟨[(9, 44), (11, 46)], [], some (44, true)⟩, ⟨[(9, 44)], [8], some (44, true)⟩, ⟨[(9, 44), (13, 48)], [], some (44, true)⟩, ⟨[(9, 44), (14, 49)], [], some (44, true)⟩, ⟨[(9, 44), (15, 50)], [], some (44, true)⟩, ⟨[(9, 44), (12, 47), (16, 51)], [], some (44, true)⟩, ⟨[(9, 44), (17, 52)], [], none⟩, ⟨[(18, 53)], [], none⟩, ⟨[(19, 54)], [7], some (54, true)⟩, ⟨[(19, 54), (20, 55)], [], some (54, true)⟩, ⟨[(19, 54), (21, 56)], [], none⟩, ⟨[(22, 57)], [], none⟩, ⟨[(23, 58)], [7], some (58, true)⟩, ⟨[(23, 58), (24, 59)], [], some (58, true)⟩, ⟨[(23, 58), (25, 60)], [], some (58, true)⟩, ⟨[(23, 58)], [8], some (58, true)⟩, ⟨[(23, 58), (27, 62)], [], some (58, true)⟩, ⟨[(23, 58), (28, 63)], [], some (58, true)⟩, ⟨[(23, 58), (29, 64)], [], some (58, true)⟩, ⟨[(23, 58), (30, 65)], [], some (58, true)⟩, ⟨[(23, 58), (26, 61), (31, 66)], [], some (58, true)⟩, ⟨[(23, 58), (32, 67)], [], none⟩, ⟨[(33, 68)], [], none⟩]
      [(0, 35), (1, 36), (2, 37), (3, 38), (4, 39), (5, 40), (6, 41), (7, 42), (8, 43), (9, 44), (10, 45), (11, 46), (12, 47), (13, 48), (14, 49), (15, 50), (16, 51), (17, 52), (18, 53), (19, 54), (20, 55), (21, 56), (22, 57), (23, 58), (24, 59), (25, 60), (26, 61), (27, 62), (28, 63), (29, 64), (30, 65), (31, 66), (32, 67), (33, 68)] (by kernel_rfl) (by kernel_rfl) rfl (by kernel_rfl) (by kernel_rfl) (by kernel_rfl) (by kernel_rfl) (by kernel_rfl) ?_ ?_ ?_ ?_
    · simp only [Gt.MonosR]
      repeat' apply And.intro
      all_goals (first | exact trivial | exact fun _ _ _ h _ => h | exact LdS.mono (fun _ _ h hb => SW.below h hb))
    · show (SW w z p g q B0 r u2 u1 K2 K1) _
      exact HW7.out.drew
    · simp only [Gt.ObsV, List.take_succ_cons, List.take_zero]
      refine ⟨?_, ?_, ?_, ?_, ?_, ?_, ?_, ?_, ?_, ?_, ?_, ?_, ?_, ?_, ?_, ?_, ?_, ?_, ?_, ?_, ?_, ?_, ?_, ?_, ?_, ?_, ?_, ?_, ?_, ?_, ?_, ?_, ?_, ?_, trivial⟩
      all_goals (first
        | (refine ⟨fun _ k hlo hhi a w5 hw => ?_, fun h => absurd h (by decide)⟩)
        | (refine ⟨fun h => absurd h (by decide), fun _ y hy hlt a w5 hw => ?_⟩
           have hyj : Gt.at0 [6] y = 6 := hy
           obtain rfl : y = 0 := (by decide : ∀ y, y < 1 → Gt.at0 [6] y = 6 → y = 0) y hlt hyj
           have hw' : (SW w z p g q B0 r u2 u1 K2 K1) w5 := hw))
      all_goals simp only [Gt.Pre, Gt.Kept, Gt.Guarded, Gt.tys, List.getD_cons_zero, List.getD_cons_succ, Gt.Is, Nat.zero_add, Nat.reduceAdd]
      · intros
        have hk : k = 0 ∨ k = 1 := by have h2 : k ≤ 1 := Nat.le_trans hhi (by decide); omega
        refine Gt.okt_call (f := 10) rfl #[] (by kernel_rfl) (by simp [*]) ((answers_any w5).mono ?_)
        rintro e w6 ⟨h1, h2⟩
        exact ⟨_, h1, ⟨by rcases hk with rfl | rfl <;> exact SW.below hw h2, fun _ => h2⟩, rfl⟩
      · intros
        exact Gt.okv_move rfl hw (fun _ => Below.refl _ _) (by assumption)
      · intros
        refine Gt.guard_yes (by assumption) ?_
        exact Gt.okv_move rfl hw (fun _ => Below.refl _ _) (by assumption)
      · intros
        refine Gt.guard_yes (by assumption) ?_
        exact Gt.okv_move rfl hw (fun _ => Below.refl _ _) (by assumption)
      · intros
        refine Gt.guard_yes (by assumption) ?_
        exact Gt.okv_move rfl hw (fun _ => Below.refl _ _) (by assumption)
      · intros
        refine Gt.guard_yes (by assumption) ?_
        rename_i h18
        have e18 : a.tmps[39]?.getD undef = .slice A2 n2 c2 := by simpa [Act.eval] using h18
        refine Gt.okv_run ?_ hw (fun _ => Below.refl _ _) rfl
        simp only [execOp, *]
        go_simp
        done
      · intros
        refine Gt.guard_yes (by assumption) ?_
        refine Gt.okt_call (f := 11) rfl #[.pointer (some ⟨q, 0, none⟩), .agg #[.int .i64 1, .int .i64 0, .int .u8 0, .slice A2 n2 c2]] (by kernel_rfl) (by simp [*]) ((HD2.out w5 hw').mono ?_)
        rintro e w6 ⟨h1, h2, h3⟩
        exact ⟨_, h1, ⟨h2, h3⟩, rfl⟩
      intros
      refine Gt.guard_yes (by assumption) ?_
      refine Gt.okv_run ?_ hw (fun _ => Below.refl _ _) (by first | rfl | trivial)
      rotate_left
      intros
      refine Gt.okv_run ?_ hw (fun _ => Below.refl _ _) (by first | rfl | trivial)
      rotate_left
      · intros
        exact Gt.okv_move rfl hw (fun _ => Below.refl _ _) (by assumption)
      · intros
        refine Gt.guard_yes (by assumption) ?_
        exact Gt.okv_move rfl hw (fun _ => Below.refl _ _) (by assumption)
      · intros
        refine Gt.guard_yes (by assumption) ?_
        obtain rfl : k = 1 := Nat.le_antisymm (Nat.le_trans hhi (by decide)) (Nat.le_trans (by decide) hlo)
        have hw' : SW w z p g q B0 r u2 u2 K2 K2 w5 := hw
        refine Gt.okt_call (f := 18) rfl #[.pointer (some ⟨z, 0, none⟩)] (by kernel_rfl) (by simp [*]) ((sq_disk z p g r K2 _ w5 (SW.sq hw')).mono ?_)
        rintro e w6 ⟨h1, h2⟩
        exact ⟨_, h1, ⟨by rw [h2]; exact hw', fun _ => by rw [h2]; exact Below.refl _ _⟩, rfl⟩
      · intros
        refine Gt.guard_yes (by assumption) ?_
        obtain rfl : k = 1 := Nat.le_antisymm (Nat.le_trans hhi (by decide)) (Nat.le_trans (by decide) hlo)
        have hw' : SW w z p g q B0 r u2 u2 K2 K2 w5 := hw
        refine Gt.okt_call (f := 19) rfl #[.pointer (some ⟨p, 0, none⟩)] (by kernel_rfl) (by simp [*]) ((sq_writes z p g r K2 _ w5 (SW.sq hw')).mono ?_)
        rintro e w6 ⟨h1, h2⟩
        exact ⟨_, h1, ⟨by rw [h2]; exact hw', fun _ => by rw [h2]; exact Below.refl _ _⟩, rfl⟩
      · intros
        refine Gt.guard_yes (by assumption) ?_
        exact Gt.okv_move rfl hw (fun _ => Below.refl _ _) (by assumption)
      intros
      refine Gt.guard_yes (by assumption) ?_
      refine Gt.okv_run ?_ hw (fun _ => Below.refl _ _) (by first | rfl | trivial)
      rotate_left
      intros
      refine Gt.guard_yes (by assumption) ?_
      refine Gt.okv_run ?_ hw (fun _ => Below.refl _ _) (by first | rfl | trivial)
      rotate_left
      intros
      refine Gt.guard_yes (by assumption) ?_
      obtain rfl : k = 1 := Nat.le_antisymm (Nat.le_trans hhi (by decide)) (Nat.le_trans (by decide) hlo)
      have hw' : SW w z p g q B0 r u2 u2 K2 K2 w5 := hw
      have hs := hw'
      obtain ⟨k6, hr6⟩ := hs.rs
      obtain ⟨d6, Ak6, ck6, hb6, -, -⟩ := hr6.box
      have c62 : w5.cell? ⟨q, 2, none⟩ = some (.int .i64 (u2 : Int)) := hb6.cell 2
      clear hs hr6 hb6
      refine Gt.okv_run ?_ hw (fun _ => Below.refl _ _) (by first | rfl | trivial)
      rotate_left
      intros
      refine Gt.guard_yes (by assumption) ?_
      refine Gt.okv_run ?_ hw (fun _ => Below.refl _ _) (by first | rfl | trivial)
      rotate_left
      intros
      refine Gt.okv_run ?_ hw (fun _ => Below.refl _ _) (by first | rfl | trivial)
      rotate_left
      · intros
        exact Gt.okv_move rfl hw (fun _ => Below.refl _ _) (by assumption)
      · intros
        refine Gt.guard_yes (by assumption) ?_
        exact Gt.okv_move rfl hw (fun _ => Below.refl _ _) (by assumption)
      · intros
        refine Gt.guard_yes (by assumption) ?_
        obtain rfl : k = 1 := Nat.le_antisymm (Nat.le_trans hhi (by decide)) (Nat.le_trans (by decide) hlo)
        have hw' : SW w z p g q B0 r u2 u2 K2 K2 w5 := hw
        refine Gt.okt_call (f := 20) rfl #[.pointer (some ⟨z, 0, none⟩)] (by kernel_rfl) (by simp [*]) ((sq_clean z p g r K2 _ w5 (SW.sq hw') rfl).mono ?_)
        rintro e w6 ⟨h1, h2⟩
        exact ⟨_, h1, ⟨SW.below hw' h2, fun _ => h2⟩, rfl⟩
      intros
      refine Gt.okv_run ?_ hw (fun _ => Below.refl _ _) (by first | rfl | trivial)
      rotate_left
      · intros
        exact Gt.okv_move rfl hw (fun _ => Below.refl _ _) (by assumption)
      · intros
        refine Gt.guard_yes (by assumption) ?_
        exact Gt.okv_move rfl hw (fun _ => Below.refl _ _) (by assumption)
      · intros
        refine Gt.guard_yes (by assumption) ?_
        obtain rfl : k = 1 := Nat.le_antisymm (Nat.le_trans hhi (by decide)) (Nat.le_trans (by decide) hlo)
        have hw' : SW w z p g q B0 r u2 u2 K2 K2 w5 := hw
        refine Gt.okt_call (f := 16) rfl #[.pointer (some ⟨z, 0, none⟩)] (by kernel_rfl) (by simp [*]) ((sq_load z p g r K2 _ w5 (SW.sq hw')).mono ?_)
        rintro e w6 ⟨A6, c6, h1, h2, h3⟩
        exact ⟨_, h1, ⟨SW.below hw' h3, fun _ => h3⟩, ⟨A6, c6, by rw [HNK.out], h2⟩, SW.below hw' h3⟩
      · intros
        refine Gt.guard_yes (by assumption) ?_
        rename_i h60
        obtain ⟨⟨A6, c6, e6, hI6⟩, -⟩ := h60
        have k5 := conv_load hI6 HNK.out
        rw [← HSG.out] at k5
        have e6b : a.tmps[60]?.getD undef = .slice A6 nk c6 := by simpa [Act.eval] using e6
        refine Gt.okv_run (v := .string σ) ?_ hw (fun _ => Below.refl _ _) rfl
        simp only [execOp, *]
        go_simp
        done
      · intros
        refine Gt.guard_yes (by assumption) ?_
        exact Gt.okv_move rfl hw (fun _ => Below.refl _ _) (by assumption)
      intros
      refine Gt.guard_yes (by assumption) ?_
      refine Gt.okv_run ?_ hw (fun _ => Below.refl _ _) (by first | rfl | trivial)
      rotate_left
      intros
      refine Gt.guard_yes (by assumption) ?_
      refine Gt.okv_run ?_ hw (fun _ => Below.refl _ _) (by first | rfl | trivial)
      rotate_left
      · intros
        refine Gt.guard_yes (by assumption) ?_
        obtain rfl : k = 1 := Nat.le_antisymm (Nat.le_trans hhi (by decide)) (Nat.le_trans (by decide) hlo)
        have hw' : SW w z p g q B0 r u2 u2 K2 K2 w5 := hw
        have hs := hw'
        obtain ⟨k6, hr6⟩ := hs.rs
        obtain ⟨d6, Ak6, ck6, hb6, ho6, -⟩ := hr6.box
        have c65 : w5.cell? ⟨q, 5, none⟩ = some (.slice Ak6 nk ck6) := by rw [HNK.out]; exact hb6.cell 5
        refine Gt.okv_run (v := .slice Ak6 nk ck6) ?_ hw (fun _ => Below.refl _ _) ⟨⟨Ak6, ck6, rfl, ho6.inn⟩, hs⟩
        clear hs hr6 hb6 ho6
        simp only [execOp, *]
        go_simp
        done
      · intros
        refine Gt.guard_yes (by assumption) ?_
        rename_i h60
        obtain ⟨⟨A6, c6, e6, hI6⟩, -⟩ := h60
        have k5 := conv_load hI6 HNK.out
        rw [← HSG.out] at k5
        have e6b : a.tmps[65]?.getD undef = .slice A6 nk c6 := by simpa [Act.eval] using e6
        refine Gt.okv_run (v := .string σ) ?_ hw (fun _ => Below.refl _ _) rfl
        simp only [execOp, *]
        go_simp
        done
      intros
      refine Gt.guard_yes (by assumption) ?_
      refine Gt.okv_run ?_ hw (fun _ => Below.refl _ _) (by first | rfl | trivial)
      rotate_left
      intros
      refine Gt.okv_run ?_ hw (fun _ => Below.refl _ _) (by first | rfl | trivial)
      rotate_left
      all_goals (
        simp only [execOp, *]
        go_simp
        done)
    · intro a w5 hw
      have hw' : (SW w z p g q B0 r u2 u2 K2 K2) w5 := hw
      simp only [Gt.Pre, Gt.tys, List.getD_cons_zero, List.getD_cons_succ, Gt.Is]
      intro h0 h1 h2 h3 h4 h5 h6 h7 h8 h9 h10 h11 h12 h13 h14 h15 h16 h17 h18 h19 h20 h21 h22 h23 h24 h25 h26 h27 h28 h29 h30 h31 h32 h33
      obtain ⟨⟨A6, c6, e25, _⟩, _⟩ := h25
      obtain ⟨⟨A7, c7, e30, _⟩, _⟩ := h30
      simp only [Gt.puts, List.foldl_cons, List.foldl_nil, h0, h1, h2, h3, h4, h5, h6, h7, h8, h9, h10, h11, h12, h13, h14, h15, h16, h17, h18, h19, h20, h21, h22, h23, h24, h26, h27, h28, h29, h31, h32, h33, e25, e30]
      simp only [Act.put, List.setIfInBounds_toArray, List.set_cons_zero, List.set_cons_succ]
      have HWE := Lib.hid (SW.bel hw')
      clear hw hw' e25 e30
      go_wp2
      go_ret
      exact ⟨rfl, HWE.out⟩

set_option maxRecDepth 100000 in
theorem lifted (os : Os) (started : os.Started) (H : Type) (enc : TypeId × Value → H) :
    ReturnsInHanded {} Try.checked os 4 .any (Rows.slotWritesSpec.pre6 enc Try.prog Try.f4 Rows.slotWritesRow.domain false) (Rows.slotWritesSpec.post enc Try.prog Try.f4 false true false false) := by
  refine returnsInHanded_of_change_sized (C := Try.checked) own started (by kernel_rfl) Try.func4
    (ChangeSpec.witness6 (enc := enc) (C := Try.checked) false ⟨#[], #[.int .i64 0, .slice none 0 0, .slice none 0 0], []⟩ 8 (by kernel_rfl) (by kernel_rfl) (by kernel_rfl) (by kernel_rfl)) ?_
  intro W base args ds gs before hval0 hW _hcnd hsz0 _
  have hval : ∀ (j : Nat) t v, Try.f4.params[j]? = some t → args[j]? = some v → Value.okWide Try.prog W .any base t v := hval0
  have hW' := hW
  obtain ⟨p, q, hA0, hV, rfl, _hfz, _hnd⟩ := hW
  have hA : DataW.TrodAll enc Try.prog W 0 (fun _ => true) true Try.f4.params.toList args.toList ds p := hA0
  have hsz : (DataW.weightsEach Try.prog (Try.f4.params.toList ++ Rows.slotWritesSpec.plain.varTypes Try.prog) (ds ++ gs)).all (· ≤ reachBytes) = true := hsz0
  rw [Try.params4] at hA hval hsz
  obtain ⟨v0, vs0, d0, ds0, p0, q0, hargs, rfl, rfl, h0, r0⟩ := trodAll_cons hA
  obtain ⟨v1, vs1, d1, ds1, p1, q1, rfl, rfl, rfl, h1, r1⟩ := trodAll_cons r0
  obtain ⟨v2, vs2, d2, ds2, p2, q2, rfl, rfl, rfl, h2, r2⟩ := trodAll_cons r1
  obtain ⟨rfl, rfl, rfl⟩ := trodAll_nil r2
  obtain rfl : args = #[v0, v1, v2] := by cases args; simp_all
  obtain ⟨rfl, rfl⟩ := trodVars_none hV
  obtain ⟨a0, rfl, rfl, rfl, w0⟩ := open_int Try.underlying3 (hval 0 3 v0 rfl rfl) h0
  have k1 := h1
  have lt1 : ∀ x ∈ p1, x.block < W.heap.size := by obtain ⟨m, hm⟩ := k1; exact DataW.trod_lt m _ _ _ hm
  obtain ⟨A1, c1, l1, rfl, w1, sz1⟩ := open_bytes Try.underlying28 Try.underlying5 (by kernel_rfl) (hval 1 28 v1 rfl rfl) h1
  have s1 := sized_bytes hsz (j := 1) (t := 28) (e := 5) rfl rfl Try.underlying28 (by kernel_rfl) sz1
  have k2 := h2
  have lt2 : ∀ x ∈ p2, x.block < W.heap.size := by obtain ⟨m, hm⟩ := k2; exact DataW.trod_lt m _ _ _ hm
  obtain ⟨A2, c2, l2, rfl, w2, sz2⟩ := open_bytes Try.underlying28 Try.underlying5 (by kernel_rfl) (hval 2 28 v2 rfl rfl) h2
  have s2 := sized_bytes hsz (j := 2) (t := 28) (e := 5) rfl rfl Try.underlying28 (by kernel_rfl) sz2
  clear hA0 hval0 hsz0 hsz
  refine (walk a0 A1 c1 l1 A2 c2 l2 W w0 w1 s1 w2 s2).mono fun e W' ⟨he, bel⟩ => ?_
  subst he
  exact ⟨_, rfl, _, _, _, [], _, [], hW', trodAll_mk1 (shut_bool Try.underlying4 _), (trodAll_cons_mk (shut_int Try.underlying3 w0) (trodAll_cons_mk (Below.trod laidOut (by kernel_rfl) (of_decide_eq_true (by kernel_rfl)) k1 bel lt1) (trodAll_cons_mk (Below.trod laidOut (by kernel_rfl) (of_decide_eq_true (by kernel_rfl)) k2 bel lt2) trodAll_mk0))), rfl, bel.frame _, fun h => by cases h⟩

theorem over : Rows.slotWritesRow.holds Try.pinned (OpenSpec.ofChange Rows.slotWritesSpec) :=
  OpenClaim.holds_of_wide 4 Try.f4 rfl rfl rfl rfl rfl rfl rfl ⟨rfl, rfl, rfl, rfl, rfl⟩ rfl rfl rfl rfl rfl (by kernel_rfl) Try.func4 (by kernel_rfl)
    (of_decide_eq_true (by kernel_rfl)) (by unfold Func.isWrapper; first | (rw [if_pos (by decide +kernel)]; kernel_rfl) | (rw [if_neg (by decide +kernel)]; exact ⟨rfl, rfl⟩))
    (fun os started H enc _ => lifted os started H enc)

end Go.Proofs.Ytijbpafmokbnaaa.slotWrites
namespace Go.Proofs.Ytijbpafmokbnaaa
/-- The statement. -/
theorem slotWrites_holds : Rows.SlotWritesSaid := slotWrites.over
#print axioms slotWrites_holds
end Go.Proofs.Ytijbpafmokbnaaa

