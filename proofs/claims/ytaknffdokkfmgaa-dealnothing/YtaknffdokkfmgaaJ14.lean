import Derived.Maps.AppendAt
import Derived.Deep.RegionHeldLaw
import Derived.Test.YtaknffdokkfmgaaJ2
import Derived.Test.YtaknffdokkfmgaaJ3
import Derived.Test.YtaknffdokkfmgaaJ4
import Derived.Test.YtaknffdokkfmgaaJ6
import Derived.Test.YtaknffdokkfmgaaJ7
import Derived.Test.YtaknffdokkfmgaaJ10
import Derived.Test.YtaknffdokkfmgaaJ11
import Derived.Test.YtaknffdokkfmgaaJ12
import Derived.Test.YtaknffdokkfmgaaJ13
section
/- deal: the contracts that the walks of layer 10 stand on. -/
namespace Go.Proofs.Ytaknffdokkfmgaa
open Go.RowKit Go.Shelf Gw Pol Gf
theorem good_facts {n t k e r : Nat} (h : goodB n t k e r = true) : 1 ≤ t ∧ 1 ≤ k ∧ t + k + 2 * e ≤ n ∧ n + k ≤ 255 := by
  have := of_decide_eq_true h; omega
theorem mul_un (q : List Nat) : mul [1] q = add (sm 1 q) [0] := rfl
theorem sm_two (c a b : Nat) : sm c [a, b] = [gm c a, gm c b] := rfl
theorem add_two (a b : Nat) : add [a, b] [0] = [a ^^^ 0, b] := rfl
theorem rt_one {a : Nat} (h : a < 256) : rt [a] = [a, 1] := by
  have e : rt ([] ++ [a]) = tr (mul (rt []) [a, 1]) := rt_snoc [] a
  have e0 : rt [] = [1] := rfl
  rw [List.nil_append, e0, mul_un, sm_two, gm_one_left h, gm_one_left (show 1 < 256 by omega), add_two, Nat.xor_zero, tr_lin] at e
  exact e
theorem dpoints_any (n t k e r : Nat) (_hg : goodB n t k e r = true) (A : Option Addr) (c N : Nat) (z : List Int) (hN : N = z.length) (w : World) (hI : InZ w w.heap.size A c z) (hz : ∀ x ∈ z, 0 ≤ x ∧ x ≤ 300) (hNb : N ≤ 17592186043904) : Calls Try.prog 14 #[pv n t k e r, .slice A N c] w fun e w' => ∃ A2 c2, e = .returned (.slice A2 N c2) ∧ In w' w'.heap.size A2 c2 (xsL z) ∧ Below w.heap.size w w' := dpoints_in A c N z hN n t k e r w hI hz hNb
theorem dsec_any (n t k e r : Nat) (hg : goodB n t k e r = true) (w : World) : Calls Try.prog 16 #[pv n t k e r] w fun e w' => ∃ A c, e = .returned (.slice A k c) ∧ Gw.Own w' w.heap.size 5 A c (secL n k) ∧ Below w.heap.size w w' := dsec_in n k t e r (good_facts hg).2.2.2 w
theorem dneed_any (n t k e r cols : Nat) (kind : Int) (hg : goodB n t k e r = true) (hc : cols ≤ 4096) (_hk : (Lit.int .i64 kind).wf = true) (w : World) : Calls Try.prog 18 #[pv n t k e r, .int .i64 kind, .int .i64 (cols : Int)] w fun e w' => e = .returned (.int .i64 ((eachN t k kind * cols : Nat) : Int)) ∧ Below w.heap.size w w' := dneed_in n t k e r kind (good_facts hg).1 (by have := good_facts hg; omega) cols _ rfl hc w
theorem dshare_yes (n t k e r : Nat) (hg : goodB n t k e r = true) (bf : Nat) (A Ar : Option Addr) (c cr N nr C : Nat) (d rnd : List Nat) (hN : N = d.length) (hnr : nr = rnd.length) (w : World) (hF : IsField w bf) (hI : In w w.heap.size A c d) (hr : In w w.heap.size Ar cr rnd) (hC : C = Sp.cnt N k) (hlen : rnd.length = t * C) (hNb : N ≤ 4096) : Calls Try.prog 20 #[.pointer (some ⟨bf, 0, none⟩), pv n t k e r, .slice A N c, .slice Ar nr cr] w fun e w' => ∃ A2 c2 pa cp, e = .returned (.tuple #[.slice A2 n c2, .bool true]) ∧ MIn w' w'.heap.size A2 c2 n pa cp (shRow (polL n k t d rnd) C) ∧ Below w.heap.size w w' := by
  have hgf := good_facts hg
  exact callsIn_wide.1 (dshare_in n t k e r bf A Ar c cr N nr C d rnd (by omega) hgf.1 hgf.2.1 (by omega) (by omega) hN hnr w hF hI hr hC hlen hNb)
theorem dshare_no (n t k e r : Nat) (hg : goodB n t k e r = true) (bf : Nat) (A Ar : Option Addr) (c cr N nr C : Nat) (d rnd : List Nat) (hN : N = d.length) (hnr : nr = rnd.length) (w : World) (_hF : IsField w bf) (hI : In w w.heap.size A c d) (_hr : In w w.heap.size Ar cr rnd) (hC : C = Sp.cnt N k) (hlen : rnd.length ≠ t * C) (hNb : N ≤ 4096) (_hnb : nr ≤ 140737488355328) : Calls Try.prog 20 #[.pointer (some ⟨bf, 0, none⟩), pv n t k e r, .slice A N c, .slice Ar nr cr] w fun e w' => ∃ A2 c2, e = .returned (.tuple #[.slice A2 0 c2, .bool false]) ∧ Below w.heap.size w w' := by
  have hgf := good_facts hg
  refine (dshare_not n t k e r bf A Ar c cr N nr C d hgf.1 (by omega) hN w hI hC (by rw [hnr]; exact hlen) hNb).mono ?_
  rintro e w' ⟨A2, R2, c2, rfl, h1, h2⟩
  obtain rfl : R2 = 0 := h1
  exact ⟨A2, c2, rfl, h2⟩
theorem dzeros_yes (n t k e r : Nat) (hg : goodB n t k e r = true) (bf : Nat) (Ar : Option Addr) (cr nr C : Nat) (rnd : List Nat) (hnr : nr = rnd.length) (w : World) (hF : IsField w bf) (hr : In w w.heap.size Ar cr rnd) (hlen : rnd.length = t * C) (hC : C ≤ 4096) : Calls Try.prog 26 #[.pointer (some ⟨bf, 0, none⟩), pv n t k e r, .int .i64 (C : Int), .slice Ar nr cr] w fun e w' => ∃ A2 c2 pa cp, e = .returned (.tuple #[.slice A2 n c2, .bool true]) ∧ MIn w' w'.heap.size A2 c2 n pa cp (shRow (timL (rt (secL n k)) rnd t) C) ∧ Below w.heap.size w w' := by
  have hgf := good_facts hg
  refine (dzeros_of _ (tab_mn n _) true n t k e r bf Ar cr nr C hgf.2.2.2 w (fun w5 A6 c6 h5 h6 => drandom_yes n t k e r 2 bf A6 Ar c6 cr _ nr C _ (secL n k) rnd (by omega) (by omega) hgf.1 (by omega) (show t = eachN t k 2 by rfl) (by omega) (by rw [secL_len]) hnr w5 (hF.below h5 hF.lt) h6.inn ((hr.below h5).more h5.size) hlen hC (by rw [secL_len]; omega))).mono ?_
  rintro e w' ⟨A2, R2, c2, rfl, ⟨h1, pa, cp, hM⟩, h2⟩
  subst h1
  exact ⟨A2, c2, pa, cp, rfl, hM, h2⟩
theorem dzeros_no (n t k e r : Nat) (hg : goodB n t k e r = true) (bf : Nat) (Ar : Option Addr) (cr nr C : Nat) (rnd : List Nat) (hnr : nr = rnd.length) (w : World) (_hF : IsField w bf) (_hr : In w w.heap.size Ar cr rnd) (hlen : rnd.length ≠ t * C) (hC : C ≤ 4096) (_hnb : nr ≤ 140737488355328) : Calls Try.prog 26 #[.pointer (some ⟨bf, 0, none⟩), pv n t k e r, .int .i64 (C : Int), .slice Ar nr cr] w fun e w' => ∃ A2 c2, e = .returned (.tuple #[.slice A2 0 c2, .bool false]) ∧ Below w.heap.size w w' := by
  have hgf := good_facts hg
  refine (dzeros_of _ none_mn false n t k e r bf Ar cr nr C hgf.2.2.2 w (fun w5 A6 c6 _ _ => drandom_no n t k e r 2 bf A6 Ar c6 cr k nr C hgf.1 (by omega) (by rw [hnr]; exact hlen) hC w5)).mono ?_
  rintro e w' ⟨A2, R2, c2, rfl, h1, h2⟩
  obtain rfl : R2 = 0 := h1
  exact ⟨A2, c2, rfl, h2⟩
theorem dblinds_yes (n t k e r g : Nat) (hg : goodB n t k e r = true) (hgn : g < n) (bf : Nat) (Ar : Option Addr) (cr nr C : Nat) (rnd : List Nat) (hnr : nr = rnd.length) (w : World) (hF : IsField w bf) (hr : In w w.heap.size Ar cr rnd) (hlen : rnd.length = (t + k - 1) * C) (hC : C ≤ 4096) : Calls Try.prog 27 #[.pointer (some ⟨bf, 0, none⟩), pv n t k e r, .int .i64 (g : Int), .int .i64 (C : Int), .slice Ar nr cr] w fun e w' => ∃ A2 c2 pa cp, e = .returned (.tuple #[.slice A2 n c2, .bool true]) ∧ MIn w' w'.heap.size A2 c2 n pa cp (shRow (timL [g + 1, 1] rnd (t + k - 1)) C) ∧ Below w.heap.size w w' := by
  have hgf := good_facts hg
  rw [← rt_one (a := g + 1) (by omega)]
  refine (dblinds_of _ (tab_mn n _) true n t k g e r bf Ar cr nr C hgf.2.2.2 hgn w (fun w5 A6 c6 h5 h6 => drandom_yes n t k e r 3 bf A6 Ar c6 cr _ nr C _ ([g + 1]) rnd (by omega) (by omega) hgf.1 (by omega) (show t + k - 1 = eachN t k 3 by rfl) (by omega) (by rfl) hnr w5 (hF.below h5 hF.lt) h6.inn ((hr.below h5).more h5.size) hlen hC (by simp))).mono ?_
  rintro e w' ⟨A2, R2, c2, rfl, ⟨h1, pa, cp, hM⟩, h2⟩
  subst h1
  exact ⟨A2, c2, pa, cp, rfl, hM, h2⟩
theorem dblinds_no (n t k e r : Nat) (gi : Int) (hg : goodB n t k e r = true) (_hgw : (Lit.int .i64 gi).wf = true) (bf : Nat) (Ar : Option Addr) (cr nr C : Nat) (rnd : List Nat) (hnr : nr = rnd.length) (w : World) (_hF : IsField w bf) (_hr : In w w.heap.size Ar cr rnd) (hno : gi < 0 ∨ (n : Int) ≤ gi ∨ rnd.length ≠ (t + k - 1) * C) (hC : C ≤ 4096) (_hnb : nr ≤ 140737488355328) : Calls Try.prog 27 #[.pointer (some ⟨bf, 0, none⟩), pv n t k e r, .int .i64 gi, .int .i64 (C : Int), .slice Ar nr cr] w fun e w' => ∃ A2 c2, e = .returned (.tuple #[.slice A2 0 c2, .bool false]) ∧ Below w.heap.size w w' := by
  have hgf := good_facts hg
  by_cases hin : 0 ≤ gi ∧ gi < (n : Int)
  · obtain ⟨g, rfl⟩ : ∃ g : Nat, gi = (g : Int) := ⟨gi.toNat, by omega⟩
    have hl : rnd.length ≠ (t + k - 1) * C := by rcases hno with h | h | h; · omega
                                                 · omega
                                                 · exact h
    refine (dblinds_of _ none_mn false n t k g e r bf Ar cr nr C hgf.2.2.2 (by omega) w (fun w5 A6 c6 _ _ => drandom_no n t k e r 3 bf A6 Ar c6 cr 1 nr C hgf.1 (by omega) (by rw [hnr]; exact hl) hC w5)).mono ?_
    rintro e w' ⟨A2, R2, c2, rfl, h1, h2⟩
    obtain rfl : R2 = 0 := h1
    exact ⟨A2, c2, rfl, h2⟩
  · refine (dblinds_out n t k gi e r bf Ar cr nr C (by omega) (by omega) w).mono ?_
    rintro e w' ⟨A2, R2, c2, rfl, h1, h2⟩
    obtain rfl : R2 = 0 := h1
    exact ⟨A2, c2, rfl, h2⟩
theorem dmasks_yes (n t k e r : Nat) (hg : goodB n t k e r = true) (bf : Nat) (Ar : Option Addr) (cr nr C : Nat) (rnd : List Nat) (hnr : nr = rnd.length) (w : World) (hF : IsField w bf) (hr : In w w.heap.size Ar cr rnd) (hlen : rnd.length = (t + k) * C) (hC : C ≤ 4096) : Calls Try.prog 28 #[.pointer (some ⟨bf, 0, none⟩), pv n t k e r, .int .i64 (C : Int), .slice Ar nr cr] w fun e w' => ∃ A2 c2 pa cp, e = .returned (.tuple #[.slice A2 n c2, .bool true]) ∧ MIn w' w'.heap.size A2 c2 n pa cp (shRow (timL [1] rnd (t + k)) C) ∧ Below w.heap.size w w' := by
  have hgf := good_facts hg
  refine (dmasks_of _ true n t k e r bf Ar cr nr C w (fun w5 h5 => drandom_yes n t k e r 4 bf none Ar 0 cr 0 nr C (t + k) [] rnd (by omega) (by omega) hgf.1 (by omega) rfl (by omega) rfl hnr w5 (hF.below h5 hF.lt) ⟨Sl.nil, Nat.le_refl _, fun _ => rfl⟩ ((hr.below h5).more h5.size) hlen hC (by simp))).mono ?_
  rintro e w' ⟨A2, R2, c2, rfl, ⟨h1, pa, cp, hM⟩, h2⟩
  subst h1
  exact ⟨A2, c2, pa, cp, rfl, hM, h2⟩
theorem dmasks_no (n t k e r : Nat) (hg : goodB n t k e r = true) (bf : Nat) (Ar : Option Addr) (cr nr C : Nat) (rnd : List Nat) (hnr : nr = rnd.length) (w : World) (_hF : IsField w bf) (_hr : In w w.heap.size Ar cr rnd) (hlen : rnd.length ≠ (t + k) * C) (hC : C ≤ 4096) (_hnb : nr ≤ 140737488355328) : Calls Try.prog 28 #[.pointer (some ⟨bf, 0, none⟩), pv n t k e r, .int .i64 (C : Int), .slice Ar nr cr] w fun e w' => ∃ A2 c2, e = .returned (.tuple #[.slice A2 0 c2, .bool false]) ∧ Below w.heap.size w w' := by
  have hgf := good_facts hg
  refine (dmasks_of _ false n t k e r bf Ar cr nr C w (fun w5 _ => drandom_no n t k e r 4 bf none Ar 0 cr 0 nr C hgf.1 (by omega) (by rw [hnr]; exact hlen) hC w5)).mono ?_
  rintro e w' ⟨A2, R2, c2, rfl, h1, h2⟩
  obtain rfl : R2 = 0 := h1
  exact ⟨A2, c2, rfl, h2⟩
end Go.Proofs.Ytaknffdokkfmgaa
end
section
/- What the statements' own answers (package shamrocklaw10) does: it returns true. -/
namespace Go.Proofs.Ytaknffdokkfmgaa
open Go.RowKit Go.Shelf Gw Pol
set_option maxRecDepth 100000 in
set_option maxHeartbeats 2000000 in
theorem answers_any (w : World) : Calls Try.prog 11 #[] w fun e w' => e = .returned (.bool true) ∧ Below w.heap.size w w' := by
  obtain ⟨w1, hw1⟩ : ∃ w1, w1 = w.alloc (.cells #[.int .i64 3, .int .i64 1, .int .i64 1, .int .i64 0, .int .i64 9] 23) := ⟨_, rfl⟩
  have hpb1 := Pbx.new w 23 3 1 1 0 9
  have hb1 : Below w.heap.size w w1 := by rw [hw1]; exact (Below.refl _ w).alloc (Nat.le_refl _) _
  rw [← hw1] at hpb1
  have HPB := Lib.hid hpb1
  have HPL := Lib.hid hpb1.lt
  have HB1 := Lib.hid hb1
  clear hpb1 hb1
  go_enter Try.func11, Try.ntmps11
  go_wp2
  rw [← hw1]
  clear hw1
  rename_i K1 hK1
  refine Gt.regionA [FIs, Gt.Is (pv 3 1 1 0 9), OIs w1.heap.size 1 [7], OIs w1.heap.size 1 [0], TIs 3 (shRow (polL 3 1 1 [7] [0]) 1), TIs 3 (shRow (polL 3 1 1 [7] [0]) 1), MIs 3 (shRow (polL 3 1 1 [7] [0]) 1), Gt.Is (.bool true), MIs 3 (shRow (polL 3 1 1 [7] [0]) 1), Gt.Is (.bool true)] 45
    [⟨[], [], none⟩, ⟨[], [1], none⟩, ⟨[], [], none⟩, ⟨[], [], none⟩, ⟨[(0, 6), (1, 7), (2, 8), (3, 9)], [], none⟩, ⟨[(4, 10)], [], none⟩, ⟨[(5, 5)], [], none⟩, ⟨[(5, 5)], [], none⟩, ⟨[(6, 11)], [], none⟩, ⟨[(7, 12)], [], none⟩]
    [(0, 6), (1, 7), (2, 8), (3, 9), (4, 10), (5, 5), (6, 11), (7, 12), (8, 2), (9, 3)] (by kernel_rfl) (by kernel_rfl) (by kernel_rfl) (by kernel_rfl) ?_ ?_ ?_
  · simp only [Gt.Monos]
    repeat' apply And.intro
    all_goals (first | exact trivial | exact Gt.Is.mono _ | exact OIs.mono _ _ _ | exact NIs.mono _ _ | exact FIs.mono | exact MIs.mono _ _ | exact TIs.mono _ _ | exact ZIs.mono | exact EIs.mono | exact LIs.mono _ | exact SIs.mono _ _ | exact GIs.mono _ _ _)
  · simp only [Gt.Obs]
    repeat' apply And.intro
    all_goals try exact trivial
    all_goals (
      intro a w5 hg
      have hg' : Below w1.heap.size w1 w5 := hg
      simp only [Gt.Pre, Gt.Kept, Gt.Guarded, Gt.tys, List.getD_cons_zero, List.getD_cons_succ, Gt.Is, Nat.zero_add, Nat.reduceAdd]
      intros
      try (refine ⟨fun _ => ?_, fun hne => absurd (by assumption) hne⟩))
    all_goals (first
      | exact Gt.ok_move rfl (by assumption)
      | exact Gt.ok_assign rfl (by assumption)
      | exact Gt.ok_pick rfl (by assumption) (by rw [if_pos rfl]; assumption)
      | (refine Gt.ok_call (f := 21) rfl #[] (by kernel_rfl) (by simp) ((new_any _).mono ?_)
         rintro e w6 ⟨rfl, hF6, hb6⟩
         exact ⟨_, rfl, hb6, _, rfl, hF6⟩)
      | (exact Gt.ok_load rfl (by assumption) (HPB.out.below hg' HPL.out).load rfl)
      | (refine Gt.ok_runW (v := .slice (some ⟨w5.heap.size, 0, none⟩) 1 1) (w' := w5.alloc (.cells #[.int .u8 7] 5)) ?_ ((Below.refl _ _).alloc (Nat.le_refl _) _) ⟨_, _, rfl, own_lit w5 5 [7] _ rfl (fun y hy => by simp at hy; omega) (by simp) _ hg'.size _ rfl⟩
         simp only [execOp, List.map_toArray, List.map_cons, List.map_nil, *]
         go_simp
         done)
      | (refine Gt.ok_runW (v := .slice (some ⟨w5.heap.size, 0, none⟩) 1 1) (w' := w5.alloc (.cells #[.int .u8 0] 5)) ?_ ((Below.refl _ _).alloc (Nat.le_refl _) _) ⟨_, _, rfl, own_lit w5 5 [0] _ rfl (fun y hy => by simp at hy; omega) (by simp) _ hg'.size _ rfl⟩
         simp only [execOp, List.map_toArray, List.map_cons, List.map_nil, *]
         go_simp
         done)
      | (obtain ⟨b6, hv6, hF6⟩ : FIs (a.eval (.tmp 6)) w5 := by assumption
         obtain ⟨A7, c7, hv7, ho7⟩ : OIs w1.heap.size 1 [7] (a.eval (.tmp 8)) w5 := by assumption
         obtain ⟨A8, c8, hv8, ho8⟩ : OIs w1.heap.size 1 [0] (a.eval (.tmp 9)) w5 := by assumption
         refine Gt.ok_call (f := 20) rfl #[.pointer (some ⟨b6, 0, none⟩), pv 3 1 1 0 9, .slice A7 1 c7, .slice A8 1 c8] (by kernel_rfl) (by simp [*] <;> rfl) ((dshare_yes 3 1 1 0 9 (by decide) b6 A7 A8 c7 c8 1 1 1 [7] [0] rfl rfl w5 hF6 ho7.inn ho8.inn rfl rfl (by omega)).mono ?_)
         rintro e w6 ⟨A9, c9, pa9, cp9, rfl, hM9, hb9⟩
         exact ⟨_, rfl, hb9, A9, c9, pa9, cp9, rfl, hM9⟩)
      | (obtain ⟨A6, c6, pa6, cp6, hv6, hM6⟩ : TIs 3 (shRow (polL 3 1 1 [7] [0]) 1) (a.eval (.tmp 5)) w5 := by assumption
         refine Gt.ok_run (v := .slice A6 3 c6) ?_ ⟨A6, c6, pa6, cp6, rfl, hM6⟩
         simp only [execOp, hv6]
         go_simp
         done)
      | (obtain ⟨A6, c6, pa6, cp6, hv6, hM6⟩ : TIs 3 (shRow (polL 3 1 1 [7] [0]) 1) (a.eval (.tmp 5)) w5 := by assumption
         refine Gt.ok_run (v := .bool true) ?_ rfl
         simp only [execOp, hv6]
         go_simp
         done)
      | (refine Gt.ok_run ?_ rfl
         simp only [execOp, *]
         go_simp
         done))
  · intro a w5 hg
    have hg' : Below w1.heap.size w1 w5 := hg
    simp only [Gt.Pre, Gt.tys, List.getD_cons_zero, List.getD_cons_succ, Gt.Is]
    intro h0 h1 h2 h3 h4 h5 h6 h7 h8 h9
    show K1 _ _
    refine hK1 _ _ ?_
    obtain ⟨A9, c9, pa9, cp9, h8, hM9⟩ := h8
    obtain ⟨_, h0, _⟩ := h0
    obtain ⟨_, _, h2, _⟩ := h2
    obtain ⟨_, _, h3, _⟩ := h3
    obtain ⟨_, _, _, _, h6, _⟩ := h6
    simp only [Gt.puts, List.foldl_cons, List.foldl_nil, h0, h1, h2, h3, h6, h7, h8, h9]
    simp only [Act.put, List.setIfInBounds_toArray, List.set_cons_zero, List.set_cons_succ]
    have HB5 := Lib.hid (HB1.out.trans (hg'.mono HB1.out.size))
    have hpb5 := HPB.out.below hg' HPL.out
    have HM9 := Lib.hid hM9
    have HP5 := Lib.hid hpb5
    obtain ⟨c0, c1, c2, c3, c4⟩ := hpb5
    clear h0 h1 h2 h3 h4 h5 h6 h7 h8 h9 hM9
    go_wp2_with fail
    refine (dgood_any 3 1 1 0 9 w5 (by decide)).mono ?_
    rintro e w6 ⟨rfl, hb6⟩
    have hG : goodB 3 1 1 0 9 = true := by decide
    rw [hG]
    go_wp2_with fail
    refine (dpoint_zero w6).mono ?_
    rintro e w7 ⟨rfl, hb7⟩
    have HB7 := Lib.hid (hb6.trans (hb7.mono hb6.size))
    have HP7 := Lib.hid (HP5.out.below HB7.out HP5.out.lt)
    clear c0 c1 c2 c3 c4 hb6 hb7
    obtain ⟨c0, c1, c2, c3, c4⟩ := HP7.out
    go_wp2_with fail
    refine (dneed_any 3 1 1 0 9 2 4 (by decide) (by omega) (by decide) w7).mono ?_
    rintro e w8 ⟨rfl, hb8⟩
    have hN : ((eachN 1 1 4 * 2 : Nat) : Int) = 4 := by decide
    rw [hN]
    have HB8 := Lib.hid (HB7.out.trans (hb8.mono HB7.out.size))
    have HP8 := Lib.hid (HP5.out.below HB8.out HP5.out.lt)
    have hM8 := (HM9.out.below HB8.out).more HB8.out.size
    obtain ⟨b, off, hA9, hbl, hcs, hrow⟩ := hM8.rd 2 (by omega)
    have hcap := hM8.cap
    subst hA9
    have hcr := conv_sl (P := Try.prog) hrow.sl Try.underlying28 Try.underlying5 Try.underlying9 (cp9 2)
    have hs2 : str (shRow (polL 3 1 1 [7] [0]) 1 2) = { data := #[7] } := by decide +kernel
    rw [hs2, shRow_len] at hcr
    rw [shRow_len] at hcs
    clear c0 c1 c2 c3 c4 hb8 hM8 hrow hs2
    obtain ⟨c0, c1, c2, c3, c4⟩ := HP8.out
    go_wp2_with fail
    refine (dsec_any 3 1 1 0 9 (by decide) w8).mono ?_
    rintro e w9 ⟨A10, c10, rfl, ho10, hb10⟩
    have hcq := conv_sl (P := Try.prog) ho10.sl Try.underlying28 Try.underlying5 Try.underlying9 c10
    have hs3 : str (secL 3 1) = { data := #[4] } := by decide +kernel
    rw [hs3, secL_len] at hcq
    have HB9 := Lib.hid (HB5.out.trans ((HB8.out.mono HB5.out.size).trans (hb10.mono (Nat.le_trans HB5.out.size HB8.out.size))))
    clear ho10 hb10 hs3
    go_wp2
    go_ret
    exact ⟨rfl, HB9.out⟩
end Go.Proofs.Ytaknffdokkfmgaa
end
section
/- Sharing in numbers. -/
namespace Go.Proofs.Ytaknffdokkfmgaa
open Pol
theorem co_chunk (l : List Nat) (m c i : Nat) : co (chunk l m c) i = if i < m then co l (c * m + i) else 0 := by
  unfold chunk co
  by_cases h : i < m
  · simp [List.getD_eq_getElem?_getD, List.getElem?_drop, h]
  · simp [List.getD_eq_getElem?_getD, List.getElem?_take, h]
theorem chunk_bb {l : List Nat} (h : BB l) (m c : Nat) : BB (chunk l m c) := fun x hx => h x (List.mem_of_mem_drop (List.mem_of_mem_take hx))
theorem xorL_bb {a b : List Nat} (ha : BB a) (hb : BB b) : BB (xorL a b) := fun x hx => by
  obtain ⟨i, _, rfl⟩ := List.mem_map.1 hx
  exact Nat.xor_lt_two_pow (n := 8) (ha.co i) (hb.co i)
theorem co_xorL {a b : List Nat} (h : a.length = b.length) (i : Nat) : co (xorL a b) i = co a i ^^^ co b i := by
  by_cases hi : i < a.length
  · exact xorL_co hi
  · rw [co_far (by rw [xorL_len]; omega), co_far (p := a) (by omega), co_far (p := b) (by omega)]; rfl
theorem timL_bb (fac rnd : List Nat) (m c : Nat) : BB (timL fac rnd m c) := tr_bb (mul_bb _ _)
theorem timL_ev {fac rnd : List Nat} (hf : BB fac) (hr : BB rnd) {x : Nat} (hx : x < 256) (m c : Nat) : ev x (timL fac rnd m c) = Gf.gm (ev x fac) (ev x (chunk rnd m c)) := by
  rw [timL, ev_tr, ev_mul hf (chunk_bb hr m c) hx]
theorem rt_sec_bb (n k : Nat) : BB (rt (secL n k)) := rt_bb _
theorem polL_ev {n k t : Nat} {d rnd : List Nat} (hr : BB rnd) {x : Nat} (hx : x < 256) (c : Nat) : ev x (polL n k t d rnd c) = Gf.gm (ev x (rt (secL n k))) (ev x (chunk rnd t c)) ^^^ ev x (thr (secL n k) (Sp.col d k c)) := by
  rw [polL, ev_tr, ev_add (timL_bb _ _ t c) (thr_bb _ _) hx, timL_ev (rt_sec_bb n k) hr hx]
theorem ev_chunk_xor {a b : List Nat} (ha : BB a) (hb : BB b) (h : a.length = b.length) {x : Nat} (hx : x < 256) (m c : Nat) : ev x (chunk (xorL a b) m c) = ev x (chunk a m c) ^^^ ev x (chunk b m c) := by
  rw [← ev_add (chunk_bb ha m c) (chunk_bb hb m c) hx]
  refine ev_ext x fun i => ?_
  rw [co_add, co_chunk, co_chunk, co_chunk]
  by_cases hi : i < m
  · rw [if_pos hi, if_pos hi, if_pos hi, co_xorL h]
  · rw [if_neg hi, if_neg hi, if_neg hi]; rfl
theorem co_shRow (l : Nat → List Nat) {C h c : Nat} (hc : c < C) : co (shRow l C h) c = ev (h + 1) (l c) := by simp [co, shRow, hc]
theorem shRow_bb {l : Nat → List Nat} {C : Nat} (hl : ∀ c, c < C → BB (l c)) (h : Nat) : BB (shRow l C h) := fun x hx => by
  obtain ⟨c, hc, rfl⟩ := List.mem_map.1 hx
  exact ev_lt (hl c (List.mem_range.1 hc)) _
theorem shRow_xor {l1 l2 l3 : Nat → List Nat} {C h : Nat} (he : ∀ c, c < C → ev (h + 1) (l3 c) = ev (h + 1) (l1 c) ^^^ ev (h + 1) (l2 c)) : xorL (shRow l1 C h) (shRow l2 C h) = shRow l3 C h := by
  refine ext_co (by rw [xorL_len, shRow_len, shRow_len]) fun i hi => ?_
  rw [xorL_len, shRow_len] at hi
  rw [xorL_co (by rw [shRow_len]; exact hi), co_shRow _ hi, co_shRow _ hi, co_shRow _ hi, he i hi]
theorem sum_times {fac a b : List Nat} (hf : BB fac) (ha : BB a) (hb : BB b) (h : a.length = b.length) {g : Nat} (hg : g + 1 < 256) (m C : Nat) :
    xorL (shRow (timL fac a m) C g) (shRow (timL fac b m) C g) = shRow (timL fac (xorL a b) m) C g := shRow_xor fun c _ => by
  rw [timL_ev hf (xorL_bb ha hb) hg, timL_ev hf ha hg, timL_ev hf hb hg, ev_chunk_xor ha hb h hg, Gf.gm_xor_right (ev_lt hf _) (ev_lt (chunk_bb ha m c) _) (ev_lt (chunk_bb hb m c) _)]
theorem sum_share {n k t : Nat} {d a b : List Nat} (ha : BB a) (hb : BB b) (h : a.length = b.length) {g : Nat} (hg : g + 1 < 256) (C : Nat) :
    xorL (shRow (polL n k t d a) C g) (shRow (timL (rt (secL n k)) b t) C g) = shRow (polL n k t d (xorL a b)) C g := shRow_xor fun c _ => by
  have hz := rt_sec_bb n k
  rw [polL_ev (xorL_bb ha hb) hg, polL_ev ha hg, timL_ev hz hb hg, ev_chunk_xor ha hb h hg, Gf.gm_xor_right (ev_lt hz _) (ev_lt (chunk_bb ha t c) _) (ev_lt (chunk_bb hb t c) _)]
  rw [Nat.xor_assoc, Nat.xor_assoc, Nat.xor_comm (Gf.gm (ev (g + 1) (rt (secL n k))) (ev (g + 1) (chunk b t c)))]
end Go.Proofs.Ytaknffdokkfmgaa
end
section
/- Words of values in plain numbers: a polynomial's values at some points, how often two agree, and that few points tell them apart. -/
namespace Pol
open Go.Proofs.Ytaknffdokkfmgaa

/-- The values of p at all of xs. -/
def enc (p xs : List Nat) : List Nat := xs.map (fun x => ev x p)
theorem enc_len (p xs : List Nat) : (enc p xs).length = xs.length := by simp [enc]
theorem enc_bb {p : List Nat} (hp : BB p) (xs : List Nat) : BB (enc p xs) := fun y hy => by
  obtain ⟨x, _, rfl⟩ := List.mem_map.1 hy
  exact ev_lt hp x
theorem enc_at {p xs : List Nat} {j : Nat} (hj : j < xs.length) : co (enc p xs) j = ev xs[j] p := by
  rw [co_get (by rw [enc_len]; exact hj)]; simp [enc]
theorem enc_get {p xs : List Nat} {j x : Nat} (h : xs[j]? = some x) : (enc p xs)[j]? = some (ev x p) := by simp [enc, h]
/-- The row when k values are written. -/
def encTo (p xs : List Nat) (k : Nat) : List Nat := (List.range xs.length).map (fun j => if j < k then ev (co xs j) p else 0)
theorem encTo_len (p xs : List Nat) (k : Nat) : (encTo p xs k).length = xs.length := by simp [encTo]
theorem co_encTo {p xs : List Nat} {k j : Nat} (h : j < xs.length) : co (encTo p xs k) j = if j < k then ev (co xs j) p else 0 := by
  rw [co_get (by rw [encTo_len]; exact h)]; simp [encTo]
theorem encTo_zero (p xs : List Nat) : encTo p xs 0 = List.replicate xs.length 0 := by
  refine ext_co (by rw [encTo_len, List.length_replicate]) fun i hi => ?_
  rw [encTo_len] at hi
  rw [co_encTo hi, if_neg (by omega)]
  unfold co
  simp [hi]
theorem encTo_all (p xs : List Nat) : encTo p xs xs.length = enc p xs := by
  refine ext_co (by rw [encTo_len, enc_len]) fun i hi => ?_
  rw [encTo_len] at hi
  rw [co_encTo hi, if_pos hi, enc_at hi, co_get hi]
theorem encTo_step {p xs : List Nat} {k x : Nat} (hx : xs[k]? = some x) : (encTo p xs k).set k (ev x p) = encTo p xs (k + 1) := by
  obtain ⟨hk, rfl⟩ := List.getElem?_eq_some_iff.1 hx
  refine ext_co (by rw [List.length_set, encTo_len, encTo_len]) fun i hi => ?_
  rw [List.length_set, encTo_len] at hi
  by_cases e : i = k
  · subst e
    rw [co_encTo hi, if_pos (by omega), co_get (by rw [List.length_set, encTo_len]; exact hi), co_get hi]
    simp
  · rw [co_set_ne e, co_encTo hi, co_encTo hi]
    by_cases h : i < k
    · rw [if_pos h, if_pos (by omega)]
    · rw [if_neg h, if_neg (by omega)]
theorem agr_enc (p xs : List Nat) : ∀ k, k ≤ xs.length → agrTo p xs (enc p xs) k = k := by
  intro k
  induction k with
  | zero => intro _; rfl
  | succ k ih =>
    intro hk
    rw [agrTo, if_pos (by rw [enc_at (by omega), co_get (by omega)]), ih (by omega)]
/-- How many of the first k values of two rows are the same. -/
def sameTo (a b : List Nat) : Nat → Nat
  | 0 => 0
  | k + 1 => if co a k = co b k then sameTo a b k + 1 else sameTo a b k
theorem sameTo_le (a b : List Nat) (k : Nat) : sameTo a b k ≤ k := by
  induction k with
  | zero => exact Nat.le_refl _
  | succ k ih => unfold sameTo; split <;> omega
theorem same_filter (p q xs : List Nat) : ∀ k, k ≤ xs.length → sameTo (enc p xs) (enc q xs) k = ((xs.take k).filter (fun x => decide (ev x p = ev x q))).length := by
  intro k
  induction k with
  | zero => intro _; rfl
  | succ k ih =>
    intro hk
    have hx := List.getElem?_eq_getElem (show k < xs.length by omega)
    rw [sameTo, enc_at (by omega), enc_at (by omega), List.take_add_one, hx, List.filter_append, List.length_append, ih (by omega)]
    by_cases e : ev xs[k] p = ev xs[k] q
    · rw [if_pos e]; simp [e]
    · rw [if_neg e]; simp [e]
/-- Two unlike polynomials agree at few points. -/
theorem few_same {p q xs : List Nat} (hp : BB p) (hq : BB q) (hx : BB xs) (hn : xs.Nodup) (hne : tr p ≠ tr q) : sameTo (enc p xs) (enc q xs) xs.length < max p.length q.length := by
  rw [same_filter p q xs xs.length (Nat.le_refl _), List.take_length]
  rcases Nat.lt_or_ge (xs.filter (fun x => decide (ev x p = ev x q))).length (max p.length q.length) with h | h
  · exact h
  · exact absurd (tr_ext (unique hp hq (Dg.len (Nat.le_max_left _ _)) (Dg.len (Nat.le_max_right _ _)) (fun x hx' => hx x (List.mem_filter.1 hx').1) (hn.filter _) h
      (fun x hx' => by simpa using (List.mem_filter.1 hx').2))) hne
/-- Values at enough points make the polynomial again. -/
theorem thr_enc {p xs : List Nat} (hp : BB p) (hx : BB xs) (hn : xs.Nodup) (hl : (tr p).length ≤ xs.length) : thr xs (enc p xs) = tr p := by
  rw [← tr_tr p]
  exact (thr_only hx (enc_bb hp xs) hn (tr_bb hp) (Dg.len hl) (fun j hj => by rw [ev_tr, enc_at hj])).symm
theorem tr_thr (xs ys : List Nat) : tr (thr xs ys) = thr xs ys := by unfold thr; rw [tr_tr]
theorem enc_add {p q xs : List Nat} (hp : BB p) (hq : BB q) (hx : BB xs) {j x : Nat} (h : xs[j]? = some x) : ev x (tr (add p q)) = ev x p ^^^ ev x q := by
  rw [ev_tr, ev_add hp hq (hx x (List.mem_of_getElem? h))]
end Pol
end
section
/- Words of which some values are wrong, in numbers: which places are wrong; a polynomial that is agreed on is alone; Euclid's rests; the first rest that is low enough, divided by its factor, is the polynomial that is agreed on. -/
namespace Pol
open Go.Proofs.Ytaknffdokkfmgaa

/-- The places below k at which p has another value. -/
def wrTo (p xs ys : List Nat) : Nat → List Nat
  | 0 => []
  | k + 1 => if ev (co xs k) p = co ys k then wrTo p xs ys k else wrTo p xs ys k ++ [k]
theorem wrTo_agr (p xs ys : List Nat) (k : Nat) : (wrTo p xs ys k).length + agrTo p xs ys k = k := by
  induction k with
  | zero => simp [wrTo, agrTo]
  | succ k ih => unfold wrTo agrTo; split <;> (try rw [List.length_append, List.length_singleton]) <;> omega
theorem wrTo_lt (p xs ys : List Nat) (k : Nat) : ∀ i ∈ wrTo p xs ys k, i < k := by
  induction k with
  | zero => simp [wrTo]
  | succ k ih =>
    intro i hi
    unfold wrTo at hi
    split at hi
    · have := ih i hi; omega
    · rcases List.mem_append.1 hi with h | h
      · have := ih i h; omega
      · simp at h; omega
theorem wrTo_mem (p xs ys : List Nat) (k j : Nat) (hj : j < k) : ev (co xs j) p = co ys j ∨ j ∈ wrTo p xs ys k := by
  induction k with
  | zero => omega
  | succ k ih =>
    by_cases e : j = k
    · subst e
      unfold wrTo
      split
      · exact .inl ‹_›
      · exact .inr (by simp)
    · rcases ih (by omega) with h | h
      · exact .inl h
      · refine .inr ?_
        unfold wrTo
        split
        · exact h
        · exact List.mem_append.2 (.inl h)

/-- A polynomial is agreed on, by d and e. -/
structure Agd (xs ys : List Nat) (d e : Int) (p : List Nat) : Prop where
  bb : BB p
  tr_ : tr p = p
  len : xs.length = ys.length
  few : xs.length ≤ 255
  un : xs.Nodup
  d0 : 0 ≤ d
  d1 : d ≤ 255
  e0 : 0 ≤ e
  e1 : e ≤ 255
  deg : (p.length : Int) ≤ d + 1
  most : ((wrTo p xs ys xs.length).length : Int) ≤ e
  own : ((wrTo p xs ys xs.length).length : Int) + (d + 1 + e) ≤ xs.length

theorem agr_same {p q xs ys : List Nat} : ∀ k, k ≤ xs.length → agrTo p xs ys k + agrTo q xs ys k ≤ k + sameTo (enc p xs) (enc q xs) k := by
  intro k
  induction k with
  | zero => intro _; simp [agrTo]
  | succ k ih =>
    intro hk
    have := ih (by omega)
    unfold agrTo sameTo
    have e1 := enc_at (p := p) (xs := xs) (j := k) (by omega)
    have e2 := enc_at (p := q) (xs := xs) (j := k) (by omega)
    rw [co_get (p := xs) (i := k) (by omega), e1, e2]
    by_cases h1 : ev xs[k] p = co ys k
    · by_cases h2 : ev xs[k] q = co ys k
      · rw [if_pos h1, if_pos h2, if_pos (by rw [h1, h2])]; omega
      · rw [if_pos h1, if_neg h2]; split <;> omega
    · by_cases h2 : ev xs[k] q = co ys k
      · rw [if_neg h1, if_pos h2]; split <;> omega
      · rw [if_neg h1, if_neg h2]; split <;> omega
/-- Polynomials of a degree of d at most that have at least m and m' of n values, where m + m' is more than n + d, are the same. -/
theorem agr_alone {xs ys p q : List Nat} {D : Nat} (hp : BB p) (hq : BB q) (tp : tr p = p) (tq : tr q = q) (hx : BB xs) (hn : xs.Nodup) (hlp : p.length ≤ D) (hlq : q.length ≤ D)
    (h : xs.length + D ≤ agrTo p xs ys xs.length + agrTo q xs ys xs.length) : p = q := by
  refine Decidable.byContradiction fun hne => ?_
  have h1 := few_same hp hq hx hn (by rw [tp, tq]; exact hne)
  have h2 := agr_same (p := p) (q := q) (xs := xs) (ys := ys) xs.length (Nat.le_refl _)
  omega
theorem Agd.alone {xs ys : List Nat} {d e : Int} {p q : List Nat} (hx : BB xs) (h : Agd xs ys d e p) (k : Agd xs ys d e q) : p = q := by
  have h1 := wrTo_agr p xs ys xs.length
  have h2 := wrTo_agr q xs ys xs.length
  have := h.own; have := k.most; have := h.d0; have := h.deg; have := k.deg
  exact agr_alone (D := (d + 1).toNat) (ys := ys) h.bb k.bb h.tr_ k.tr_ hx h.un (by omega) (by omega) (by omega)

theorem ev_all {p q : List Nat} (hp : BB p) (hq : BB q) (hdp : Dg p 256) (hdq : Dg q 256) (h : ∀ x, x < 256 → ev x p = ev x q) : ∀ i, co p i = co q i :=
  unique (xs := List.range 256) hp hq hdp hdq (fun x hx => List.mem_range.1 hx) List.nodup_range (by simp) (fun x hx => h x (List.mem_range.1 hx))
theorem mul_dg {p q : List Nat} {n m : Nat} (hp : Dg p n) (hq : Dg q m) : Dg (mul p q) (n + m - 1) := fun k hk => by
  rw [← mul_left_tr]
  have := hp.tr
  exact mul_far hq (by omega)
theorem mul_none {p q : List Nat} (hp : tr p ≠ []) (hq : tr q ≠ []) : ∃ k, (tr q).length ≤ k + 1 ∧ k + 2 = (tr p).length + (tr q).length ∧ co (mul p q) k ≠ 0 := by
  have l1 := List.length_pos_iff.2 hp
  have l2 := List.length_pos_iff.2 hq
  refine ⟨(tr p).length + (tr q).length - 2, by omega, by omega, ?_⟩
  have h := mul_top (p := tr p) (q := tr q) (m := (tr q).length) hp (Dg.len (Nat.le_refl _)) l2
  rw [mul_tr_tr] at h
  rw [h]
  refine Gf.gm_ne ?_ ?_
  · rw [co_tr]; exact tr_last hp
  · rw [co_tr]; exact tr_last hq

/-- What Euclid's rests are like: r0 the one ahead, r1 this one, v1 its factor. -/
structure Eu (xs ys r0 v0 r1 v1 : List Nat) : Prop where
  b0 : BB r0
  b1 : BB r1
  c0 : BB v0
  c1 : BB v1
  t1 : tr r1 = r1
  u0 : tr v0 = v0
  u1 : tr v1 = v1
  p0 : ∀ j (hj : j < xs.length), ev xs[j] r0 = Gf.gm (ev xs[j] v0) (co ys j)
  p1 : ∀ j (hj : j < xs.length), ev xs[j] r1 = Gf.gm (ev xs[j] v1) (co ys j)
  fall : r1.length < r0.length
  rise : v0.length < v1.length
  sum : v1.length + r0.length ≤ xs.length + 2
theorem Eu.start {xs ys : List Nat} (hx : BB xs) (hy : BB ys) (hn : xs.Nodup) : Eu xs ys (rt xs) [] (thr xs ys) [1] := by
  have hb1 : BB [1] := BB.cons (by omega) BB.nil
  refine ⟨rt_bb _, thr_bb _ _, BB.nil, hb1, tr_thr _ _, rfl, tr_self (.inr (by simp [co])), fun j hj => ?_, fun j hj => ?_, ?_, by simp, ?_⟩
  · rw [(ev_rt_zero hx (hx.get hj)).2 (List.getElem_mem hj)]
    exact (Gf.gm_zero_left _).symm
  · rw [thr_at hx hy hn hj]
    have : ev xs[j] [1] = 1 := by simp [ev, Gf.gm_zero_right]
    rw [this, Gf.gm_one_left (hy.co j)]
  · rw [(rt_top xs).1]; have := thr_len xs ys; omega
  · rw [(rt_top xs).1]; simp; omega
theorem Eu.step {xs ys r0 v0 r1 v1 q r2 : List Nat} (hx : BB xs) (hy : BB ys) (h : Eu xs ys r0 v0 r1 v1) (t0 : tr r0 = r0) (hne : r1 ≠ []) (hd : DivOf r0 r1 q r2) : Eu xs ys r1 v1 r2 (tr (add v0 (tr (mul q v1)))) := by
  have l0 : tr r0 ≠ [] := by rw [t0]; intro e; have := h.fall; rw [e] at this; simp at this
  have hr1 : tr r1 ≠ [] := by rw [h.t1]; exact hne
  have hv1 : v1 ≠ [] := fun e => by have := h.rise; rw [e] at this; simp at this
  have hlr := hd.lr
  rw [h.t1] at hlr
  have hfall := h.fall
  have hrise := h.rise
  have hpos := List.length_pos_iff.2 hne
  -- q's length
  have hq0 : tr q ≠ [] := by
    intro e
    have : ∀ k, co r0 k = co r2 k := fun k => by
      rw [hd.eq k, ← mul_left_tr, e]
      show co [] k ^^^ _ = _
      rw [co_nil, Nat.zero_xor]
    have h2 := tr_last l0
    rw [t0, this, co_far (by omega)] at h2
    exact h2 rfl
  obtain ⟨k, hk1, hk2, hk3⟩ := mul_none hq0 hr1
  rw [h.t1] at hk1 hk2
  rw [hd.tq] at hk2
  have hql : q.length + r1.length = r0.length + 1 := by
    have h1 : co r0 k ≠ 0 := by rw [hd.eq k, co_far (p := r2) (by omega), Nat.xor_zero]; exact hk3
    have h2 : k < r0.length := Decidable.byContradiction fun hge => h1 (co_far (by omega))
    have h3 : ¬ (k + 1 < r0.length) := fun hlt => by
      have h4 := tr_last l0
      rw [t0, hd.eq, co_far (p := r2) (by omega), Nat.xor_zero] at h4
      refine h4 (mul_far (m := r1.length) (Dg.len (Nat.le_refl _)) (by omega))
    omega
  have hq1 : q ≠ [] := fun e => by rw [e] at hq0; exact hq0 rfl
  have hmul : tr (mul q v1) = pl q v1 := by
    have := pl_tr (p := q) (q := v1) hq0 (by rw [h.u1]; exact hv1)
    rw [hd.tq, h.u1] at this; exact this
  have hml : (tr (mul q v1)).length = q.length + v1.length - 1 := by rw [hmul, pl_len]
  have hmt : co (mul q v1) (q.length + v1.length - 2) ≠ 0 := by
    obtain ⟨k', h1, h2, h3⟩ := mul_none (p := q) (q := v1) hq0 (by rw [h.u1]; exact hv1)
    rw [hd.tq, h.u1] at h2
    rw [show q.length + v1.length - 2 = k' by omega]; exact h3
  have hv1p := List.length_pos_iff.2 hv1
  have hqp := List.length_pos_iff.2 hq1
  have hbm : BB (tr (mul q v1)) := tr_bb (mul_bb _ _)
  have hself : tr (add v0 (tr (mul q v1))) = add v0 (tr (mul q v1)) := by
    refine tr_self (.inr ?_)
    rw [add_len, hml, co_add, co_far (p := v0) (by omega), Nat.zero_xor, co_tr]
    rw [show max v0.length (q.length + v1.length - 1) - 1 = q.length + v1.length - 2 by omega]; exact hmt
  have hvl : (tr (add v0 (tr (mul q v1)))).length = q.length + v1.length - 1 := by rw [hself, add_len, hml]; omega
  refine ⟨h.b1, hd.br, h.c1, tr_bb (add_bb h.c0 hbm), hd.tr_, h.u1, tr_tr _, h.p1, fun j hj => ?_, by omega, by omega, by have := h.sum; omega⟩
  have hxj := hx.get hj
  have e1 : ev xs[j] r0 = Gf.gm (ev xs[j] q) (ev xs[j] r1) ^^^ ev xs[j] r2 := by
    rw [← ev_mul hd.bq h.b1 hxj, ← ev_add (mul_bb _ _) hd.br hxj]
    exact ev_ext _ (fun i => by rw [co_add]; exact hd.eq i)
  have e2 : ev xs[j] r2 = ev xs[j] r0 ^^^ Gf.gm (ev xs[j] q) (ev xs[j] r1) := by
    rw [e1, Nat.xor_comm (Gf.gm _ _), Nat.xor_assoc, Nat.xor_self, Nat.xor_zero]
  rw [e2, ev_tr, ev_add h.c0 hbm hxj, ev_tr, ev_mul hd.bq h.c1 hxj, h.p0 j hj, h.p1 j hj, Gf.gm_xor_left (ev_lt h.c0 _) (Gf.gm_lt _ _) (hy.co j), Gf.gm_assoc (ev_lt hd.bq _) (ev_lt h.c1 _) (hy.co j)]

/-- The first rest that is low enough, divided by its factor, is the polynomial that is agreed on. -/
theorem Eu.finds {xs ys r0 v0 r1 v1 q r p : List Nat} {d e : Int} (hx : BB xs) (h : Eu xs ys r0 v0 r1 v1) (hp : Agd xs ys d e p) (high : (xs.length : Int) + d + 3 ≤ 2 * r0.length) (low : 2 * (r1.length : Int) < xs.length + d + 3)
    (hd : DivOf r1 v1 q r) : q = p ∧ r = [] := by
  have hv1 : v1 ≠ [] := fun e => by have := h.rise; rw [e] at this; simp at this
  have hown := hp.own; have hmost := hp.most; have hdeg := hp.deg; have hd0 := hp.d0; have hfew := hp.few
  have hfall := h.fall; have hsum := h.sum; have hqr := hd.lq
  obtain ⟨ws, hws⟩ : ∃ ws, ws = (wrTo p xs ys xs.length).map (co xs) := ⟨_, rfl⟩
  have hwl : ws.length = (wrTo p xs ys xs.length).length := by rw [hws]; simp
  have hwb : BB ws := fun x hx' => by
    rw [hws] at hx'
    obtain ⟨i, _, rfl⟩ := List.mem_map.1 hx'
    exact hx.co i
  obtain ⟨z, hz⟩ : ∃ z, z = add r1 (mul v1 p) := ⟨_, rfl⟩
  have hzb : BB z := by rw [hz]; exact add_bb h.b1 (mul_bb _ _)
  have hzd : ∃ M, Dg z M ∧ ws.length + M ≤ xs.length := by
    refine ⟨max r1.length (v1.length + p.length - 1), ?_, by omega⟩
    rw [hz]
    exact Dg.add (Dg.len (by omega)) ((mul_dg (Dg.len (Nat.le_refl _)) (Dg.len (Nat.le_refl _))).mono (by omega))
  obtain ⟨M, hM, hMn⟩ := hzd
  have hZ : ∀ i, co (mul (rt ws) z) i = 0 := by
    refine no_roots (n := xs.length) (xs := xs) (mul_bb _ _) ?_ hx hp.un (Nat.le_refl _) ?_
    · refine (mul_dg (Dg.len (n := ws.length + 1) (by rw [(rt_top ws).1]; exact Nat.le_refl _)) hM).mono (by omega)
    · intro x hxm
      obtain ⟨j, hj, rfl⟩ := List.getElem_of_mem hxm
      have hxj := hx.get hj
      rw [ev_mul (rt_bb _) hzb hxj]
      rcases wrTo_mem p xs ys xs.length j hj with he | hw
      · rw [co_get hj] at he
        rw [hz, ev_add h.b1 (mul_bb _ _) hxj, ev_mul h.c1 hp.bb hxj, he, h.p1 j hj, Nat.xor_self, Gf.gm_zero_right]
      · rw [(ev_rt_zero hwb hxj).2 (by rw [hws]; exact List.mem_map.2 ⟨j, hw, co_get hj⟩), Gf.gm_zero_left]
  have hzz : tr z = [] := Decidable.byContradiction fun hne => by
    obtain ⟨k, _, _, h3⟩ := mul_none (p := rt ws) (q := z) (by
      intro e
      have := (tr_nil_iff _).1 e ws.length
      rw [(rt_top ws).2] at this
      omega) hne
    exact h3 (hZ k)
  have hrv : ∀ i, co r1 i = co (mul v1 p) i := fun i => by
    have := (tr_nil_iff _).1 hzz i
    rw [hz, co_add] at this
    exact xor_eq_zero this
  have hrem : ∀ i, co (mul (add p q) v1) i = co r i := by
    have hrl := hd.lr
    rw [h.u1] at hrl
    refine ev_all (mul_bb _ _) hd.br ((mul_dg (Dg.len (n := max p.length q.length) (by rw [add_len]; exact Nat.le_refl _)) (Dg.len (Nat.le_refl v1.length))).mono (by omega)) (Dg.len (by omega)) fun x hx' => ?_
    rw [ev_mul (add_bb hp.bb hd.bq) h.c1 hx', ev_add hp.bb hd.bq hx', Gf.gm_xor_left (ev_lt hp.bb _) (ev_lt hd.bq _) (ev_lt h.c1 _)]
    have e1 : ev x r1 = Gf.gm (ev x p) (ev x v1) := by rw [ev_ext x hrv, ev_mul h.c1 hp.bb hx', Gf.gm_comm]
    have e2 : ev x r1 = Gf.gm (ev x q) (ev x v1) ^^^ ev x r := by
      rw [← ev_mul hd.bq h.c1 hx', ← ev_add (mul_bb _ _) hd.br hx']
      exact ev_ext _ (fun i => by rw [co_add]; exact hd.eq i)
    rw [← e1, e2, Nat.xor_comm (Gf.gm _ _), Nat.xor_assoc, Nat.xor_self, Nat.xor_zero]
  have hpq : tr (add p q) = [] := Decidable.byContradiction fun hne => by
    obtain ⟨k, h1, _, h3⟩ := mul_none (p := add p q) (q := v1) hne (by rw [h.u1]; exact hv1)
    have hrl := hd.lr
    rw [h.u1] at h1 hrl
    rw [hrem k] at h3
    exact h3 (co_far (by omega))
  have e : ∀ i, co p i = co q i := fun i => by
    have := (tr_nil_iff _).1 hpq i
    rw [co_add] at this
    exact xor_eq_zero this
  refine ⟨?_, ?_⟩
  · rw [← hd.tq, ← hp.tr_]; exact (tr_ext e).symm
  · rw [← hd.tr_]
    refine (tr_nil_iff _).2 fun i => ?_
    rw [← hrem i, ← mul_left_tr, hpq]
    exact co_nil i
end Pol
end
section
/- Sharing in numbers: any T + K holders know each column. -/
namespace Go.Proofs.Ytaknffdokkfmgaa
open Pol
/-- Points of m holders from f on. -/
def ptL (f m : Nat) : List Nat := (List.range m).map fun j => f + 1 + j
theorem ptL_len (f m : Nat) : (ptL f m).length = m := by simp [ptL]
theorem ptL_succ (f m : Nat) : ptL f (m + 1) = ptL f m ++ [f + 1 + m] := by simp [ptL, List.range_succ]
theorem ptL_bb {f m : Nat} (h : f + m ≤ 255) : BB (ptL f m) := fun x hx => by
  obtain ⟨i, hi, rfl⟩ := List.mem_map.1 hx
  have := List.mem_range.1 hi
  omega
theorem ptL_nodup (f m : Nat) : (ptL f m).Nodup := by
  rw [List.nodup_iff_pairwise_ne, List.pairwise_iff_getElem]
  intro i j hi hj hij
  simp [ptL]
  omega
theorem secL_nodup (n k : Nat) : (secL n k).Nodup := ptL_nodup n k
/-- The values of a polynomial there. -/
def vlL (p : List Nat) (f m : Nat) : List Nat := (List.range m).map fun j => ev (f + 1 + j) p
theorem vlL_len (p : List Nat) (f m : Nat) : (vlL p f m).length = m := by simp [vlL]
theorem vlL_succ (p : List Nat) (f m : Nat) : vlL p f (m + 1) = vlL p f m ++ [ev (f + 1 + m) p] := by simp [vlL, List.range_succ]
theorem vlL_enc (p : List Nat) (f m : Nat) : vlL p f m = enc p (ptL f m) := by simp [vlL, enc, ptL]
theorem timL_dg {n k t : Nat} {rnd : List Nat} {c C : Nat} (h : C * t ≤ rnd.length) (hc : c < C) : (timL (rt (secL n k)) rnd t c).length ≤ t + k := by
  have h1 := (mul_dg (Dg.len (p := rt (secL n k)) (n := k + 1) (by rw [(rt_top _).1, secL_len]; omega)) (Dg.len (p := chunk rnd t c) (n := t) (by rw [chunk_len h hc]; omega))).tr
  unfold timL
  omega
theorem polL_dg {n k t : Nat} {d rnd : List Nat} {c C : Nat} (h : C * t ≤ rnd.length) (hc : c < C) : (polL n k t d rnd c).length ≤ t + k := by
  have h1 := timL_dg (n := n) (k := k) h hc
  have h2 := thr_len (secL n k) (Sp.col d k c)
  rw [secL_len] at h2
  have h3 := tr_len (add (timL (rt (secL n k)) rnd t c) (thr (secL n k) (Sp.col d k c)))
  rw [add_len] at h3
  unfold polL
  omega
/-- At the points of secrets it has the column. -/
theorem polL_secret {n k t : Nat} {d rnd : List Nat} (hnk : n + k ≤ 255) (hd : BB d) (hr : BB rnd) {i : Nat} (hi : i < k) (c : Nat) : ev (n + 1 + i) (polL n k t d rnd c) = co (Sp.col d k c) i := by
  have hx : n + 1 + i < 256 := by omega
  have hl : i < (secL n k).length := by rw [secL_len]; exact hi
  have he : (secL n k)[i] = n + 1 + i := by simp [secL]
  have hz : ev (n + 1 + i) (rt (secL n k)) = 0 := (ev_rt_zero (secL_bb hnk) hx).2 (by rw [← he]; exact List.getElem_mem hl)
  have ht := thr_at (ys := Sp.col d k c) (secL_bb hnk) (Sp.col_bb hd k c) (secL_nodup n k) hl
  rw [he] at ht
  rw [polL_ev hr hx, hz, Gf.gm_zero_left, ht]
  simp
theorem secret {n k t : Nat} {d rnd : List Nat} {c C f i : Nat} (h : C * t ≤ rnd.length) (hc : c < C) (hnk : n + k ≤ 255) (hf : f + (t + k) ≤ 255) (hd : BB d) (hr : BB rnd) (hi : i < k) :
    ev (n + 1 + i) (thr (ptL f (t + k)) (vlL (polL n k t d rnd c) f (t + k))) = co (Sp.col d k c) i := by
  have hb : BB (polL n k t d rnd c) := tr_bb (add_bb (timL_bb _ _ _ _) (thr_bb _ _))
  rw [vlL_enc, thr_enc hb (ptL_bb hf) (ptL_nodup _ _) (by rw [ptL_len]; exact Nat.le_trans (tr_len _) (polL_dg h hc)), ev_tr]
  exact polL_secret hnk hd hr hi c
end Go.Proofs.Ytaknffdokkfmgaa
end
section
/- Sharing in numbers: of any T holders' shares any other document might be the one. -/
namespace Go.Proofs.Ytaknffdokkfmgaa
open Pol
/-- What the random polynomial of the other document has to be at a holder's point. -/
def nuV (n k : Nat) (p pl : List Nat) (x : Nat) : Nat := Gf.gm (ev x p ^^^ ev x pl) (Gf.inv (ev x (rt (secL n k))))
def nuL (n k : Nat) (p pl : List Nat) (f m : Nat) : List Nat := (List.range m).map fun j => nuV n k p pl (f + 1 + j)
theorem nuL_len (n k : Nat) (p pl : List Nat) (f m : Nat) : (nuL n k p pl f m).length = m := by simp [nuL]
theorem nuL_succ (n k : Nat) (p pl : List Nat) (f m : Nat) : nuL n k p pl f (m + 1) = nuL n k p pl f m ++ [nuV n k p pl (f + 1 + m)] := by simp [nuL, List.range_succ]
theorem nuL_bb (n k : Nat) (p pl : List Nat) (f m : Nat) : BB (nuL n k p pl f m) := fun x hx => by
  obtain ⟨j, _, rfl⟩ := List.mem_map.1 hx
  exact Gf.gm_lt _ _
/-- Filled up with noughts. -/
def padL (t : Nat) (q : List Nat) : List Nat := q ++ List.replicate (t - q.length) 0
theorem padL_len {t : Nat} {q : List Nat} (h : q.length ≤ t) : (padL t q).length = t := by simp [padL]; omega
theorem padL_bb {t : Nat} {q : List Nat} (h : BB q) : BB (padL t q) := h.append fun x hx => by rw [List.eq_of_mem_replicate hx]; omega
theorem padL_ev (t : Nat) (q : List Nat) (x : Nat) : ev x (padL t q) = ev x q := ev_ext x fun i => by
  unfold padL
  by_cases h : i < q.length
  · exact co_append_left h
  · rw [co_append_right (by omega), co_far (p := q) (by omega)]
    simp [co, List.getD_eq_getElem?_getD, List.getElem?_replicate]
    split <;> rfl
/-- The other document's random bytes of a column. -/
def nqL (n k t : Nat) (o : List Nat) (p : Nat → List Nat) (f c : Nat) : List Nat := padL t (thr (ptL f t) (nuL n k (p c) (thr (secL n k) (Sp.col o k c)) f t))
theorem nqL_len (n k t : Nat) (o : List Nat) (p : Nat → List Nat) (f c : Nat) : (nqL n k t o p f c).length = t := padL_len (by have := thr_len (ptL f t) (nuL n k (p c) (thr (secL n k) (Sp.col o k c)) f t); rw [ptL_len] at this; exact this)
theorem nqL_bb (n k t : Nat) (o : List Nat) (p : Nat → List Nat) (f c : Nat) : BB (nqL n k t o p f c) := padL_bb (thr_bb _ _)
theorem cat_bb {q : Nat → List Nat} (h : ∀ c, BB (q c)) (C : Nat) : BB (Sp.cat q C) := by
  induction C with
  | zero => exact BB.nil
  | succ C ih => exact ih.append (h C)
theorem chunk_cat {q : Nat → List Nat} {t : Nat} (h : ∀ c, (q c).length = t) {C c : Nat} (hc : c < C) : ∀ i, co (chunk (Sp.cat q C) t c) i = co (q c) i := fun i => by
  rw [co_chunk]
  by_cases hi : i < t
  · rw [if_pos hi, Sp.cat_co (fun c _ => h c) hc hi]
  · rw [if_neg hi, co_far (by rw [h]; omega)]
/-- At T holders' points the shares are the same. -/
theorem nothing {n k t f j : Nat} {o : List Nat} {p : Nat → List Nat} {C c : Nat} (hc : c < C) (hj : j < t) (hf : f + t ≤ n) (hnk : n + k ≤ 255) (hp : BB (p c)) :
    ev (f + 1 + j) (polL n k t o (Sp.cat (nqL n k t o p f) C) c) = ev (f + 1 + j) (p c) := by
  have hx : f + 1 + j < 256 := by omega
  have hpl : BB (thr (secL n k) (Sp.col o k c)) := thr_bb _ _
  rw [polL_ev (cat_bb (nqL_bb n k t o p f) C) hx, ev_ext (f + 1 + j) (chunk_cat (nqL_len n k t o p f) hc)]
  have hl : j < (ptL f t).length := by rw [ptL_len]; exact hj
  have he : (ptL f t)[j] = f + 1 + j := by simp [ptL]
  have hat := thr_at (ys := nuL n k (p c) (thr (secL n k) (Sp.col o k c)) f t) (ptL_bb (by omega)) (nuL_bb _ _ _ _ _ _) (ptL_nodup f t) hl
  rw [he] at hat
  have hco : co (nuL n k (p c) (thr (secL n k) (Sp.col o k c)) f t) j = nuV n k (p c) (thr (secL n k) (Sp.col o k c)) (f + 1 + j) := by simp [co, nuL, hj]
  rw [hco] at hat
  rw [nqL, padL_ev, hat]
  have hz : ev (f + 1 + j) (rt (secL n k)) ≠ 0 := fun h => by
    have h2 := (ev_rt_zero (secL_bb hnk) hx).1 h
    obtain ⟨i, hi, h3⟩ := List.mem_map.1 h2
    have := List.mem_range.1 hi
    omega
  have hzb := ev_lt (rt_sec_bb n k) (f + 1 + j)
  have hd : ev (f + 1 + j) (p c) ^^^ ev (f + 1 + j) (thr (secL n k) (Sp.col o k c)) < 256 := Nat.xor_lt_two_pow (n := 8) (ev_lt hp _) (ev_lt hpl _)
  unfold nuV
  rw [Gf.gm_comm (ev (f + 1 + j) (p c) ^^^ _), ← Gf.gm_assoc hzb (Gf.inv_lt _) hd, Gf.gm_inv hzb hz, Gf.gm_one_left hd, Nat.xor_assoc, Nat.xor_self, Nat.xor_zero]
theorem nothing_row {n k t f h : Nat} {d o rnd : List Nat} {C : Nat} (h1 : f ≤ h) (h2 : h < f + t) (hf : f + t ≤ n) (hnk : n + k ≤ 255) :
    shRow (polL n k t o (Sp.cat (nqL n k t o (polL n k t d rnd) f) C)) C h = shRow (polL n k t d rnd) C h := by
  refine ext_co (by rw [shRow_len, shRow_len]) fun c hc => ?_
  rw [shRow_len] at hc
  rw [co_shRow _ hc, co_shRow _ hc]
  have := nothing (n := n) (k := k) (t := t) (f := f) (j := h - f) (o := o) (p := polL n k t d rnd) hc (by omega) hf hnk (tr_bb (add_bb (timL_bb _ _ _ _) (thr_bb _ _)))
  rwa [show f + 1 + (h - f) = h + 1 by omega] at this
end Go.Proofs.Ytaknffdokkfmgaa
end
section
/- Two rows of bytes of the call's own, each in a block of its own. -/
namespace Gw
open Go Go.RowKit Go.Shelf
/-- Two rows, each in a block of its own. -/
structure AB (base : Nat) (e : TypeId) (W : World) (A : Option Addr) (c : Nat) (l : List Nat) (A' : Option Addr) (c' : Nat) (l' : List Nat) : Prop where
  a : Own W base e A c l
  b : Own W base e A' c' l'
  dis : ∀ g n n' : Nat, (Value.slice A n c).ownBlock = some g → (Value.slice A' n' c').ownBlock ≠ some g
section
variable {base c c' : Nat} {e : TypeId} {W W' : World} {A A' : Option Addr} {l l' : List Nat}
theorem AB.alloc (h : AB base e W A c l A' c' l') (o : Obj) : AB base e (W.alloc o) A c l A' c' l' := ⟨h.a.alloc o, h.b.alloc o, h.dis⟩
theorem AB.drewN (h : AB base e W A c l A' c' l') (n : Nat) : AB base e (W.drewN n) A c l A' c' l' := ⟨h.a.drewN n, h.b.drewN n, h.dis⟩
theorem AB.swap (h : AB base e W A c l A' c' l') : AB base e W A' c' l' A c l := ⟨h.b, h.a, fun g n n' h1 h2 => h.dis g n' n h2 h1⟩
theorem ownB {W : World} {base c n : Nat} {e : TypeId} {A : Option Addr} {l : List Nat} (h : Own W base e A c l) {r : Nat} (hr : (Value.slice A n c).ownBlock = some r) : base ≤ r ∧ r < W.heap.size := by
  rcases h.1.2 with ⟨hv, _⟩ | ⟨g, cap, cur, hv, hb, hg, _⟩
  · injection hv with h1 _ h3; subst h1; cases hr
  · injection hv with h1 _ h3
    subst h1
    simp [Value.ownBlock] at hr
    subst hr
    exact ⟨hb, (Array.getElem?_eq_some_iff.1 hg).1⟩
/-- The first one has grown by a byte. -/
theorem AB.app {v' : Value} {n v : Nat} (h : AB base e W A c l A' c' l') (hv : v < 256) (hown : W'.ownsRow base e 1 v' (n + 1) (bys l ++ [.int .u8 (v : Int)])) (hg : W.grownBy W' (Value.slice A n c).ownBlock) (hat : v'.ownBlock = (Value.slice A n c).ownBlock ∨ v'.ownBlock = some W.heap.size) :
    ∃ A2 c2, v' = .slice A2 (l ++ [v]).length c2 ∧ AB base e W' A2 c2 (l ++ [v]) A' c' l' := by
  obtain ⟨A2, c2, rfl, hO⟩ := Own.mk' (l := l ++ [v]) (by rw [bys_app]; exact hown) (Pol.BB.append h.a.2 (Pol.BB.cons hv Pol.BB.nil))
  refine ⟨A2, c2, rfl, hO, ?_, fun g m m' h1 h2 => ?_⟩
  · refine ⟨⟨h.b.1.1, ?_⟩, h.b.2⟩
    rcases h.b.1.2 with h0 | ⟨g, cap, cur, hv, hb, hgb, h0⟩
    · exact .inl h0
    · refine .inr ⟨g, cap, cur, hv, hb, (hg.block g (Array.getElem?_eq_some_iff.1 hgb).1 (fun e => ?_)).trans hgb, h0⟩
      injection hv with h1 _ h3
      refine h.dis g n l'.length e.symm ?_
      subst h1
      simp [Value.ownBlock]
  · have h3 : (Value.slice A2 (l ++ [v]).length c2).ownBlock = some g := own_any h1
    rw [h3] at hat
    rcases hat with h4 | h4
    · exact h.dis g n m' h4.symm h2
    · injection h4 with h4
      have := (ownB h.b h2).2
      omega
theorem AB.below {w : World} {n : Nat} (h : AB base e W A c l A' c' l') (hB : Below base w W) (hs : base ≤ W.heap.size) (hg : W.grownBy W' (Value.slice A n c).ownBlock) : Below base w W' := hB.grown hg hs (fun _ hk => (ownB h.a hk).1)
theorem grown_cell {n p : Nat} {v : Value} (hg : W.grownBy W' (Value.slice A n c).ownBlock) (hc : W.cell? ⟨p, 0, none⟩ = some v) (hp : ∀ r, (Value.slice A n c).ownBlock = some r → r < p) : W'.cell? ⟨p, 0, none⟩ = some v :=
  (World.cell?_of_block (w := W) (a := ⟨p, 0, none⟩) (hg.block p (cell_lt hc) (fun e => by have := hp p e.symm; omega))).trans hc
/-- The second one stands where the first is turned. -/
theorem AB.other {n : Nat} (h : AB base e W A c l A' c' l') (hg : W.grownBy W' (Value.slice A n c).ownBlock) : Own W' base e A' c' l' := by
  refine ⟨⟨h.b.1.1, ?_⟩, h.b.2⟩
  rcases h.b.1.2 with h0 | ⟨g, cap, cur, hv, hb, hgb, h0⟩
  · exact .inl h0
  · refine .inr ⟨g, cap, cur, hv, hb, (hg.block g (Array.getElem?_eq_some_iff.1 hgb).1 (fun e => ?_)).trans hgb, h0⟩
    injection hv with h1 _ h3
    refine h.dis g n l'.length e.symm ?_
    subst h1
    simp [Value.ownBlock]
theorem AB.start (W : World) (base : Nat) (e : TypeId) : AB base e W none 0 [] none 0 [] := ⟨Own.none_ _ _ _, Own.none_ _ _ _, fun g n n' h => by cases h⟩
end
theorem news_one {W : World} {p : Nat} {v : Value} (h : W.cell? ⟨p, 0, none⟩ = some v) : ∀ j u, ([v] : List Value)[j]? = some u → W.cell? ((⟨p, 0, none⟩ : Addr).add j) = some u := fun j u hj => by
  match j, hj with
  | 0, hj => simp at hj; subst hj; rw [addr_add]; exact h
end Gw
end
section
/- Two rows of bytes of the call's own that grow side by side inside a region that leaves its order open. -/
namespace Gw
open Go Go.RowKit Go.Shelf
/-- append of one-cell values, with where the new slice lies, as one step of a region that leaves its order open. -/
theorem step_apAt {P : Program} {w : World} {ops : Array Oper} {o : Oper} {a : Act} {K : Act → World → Prop} {Q : Exit → Act → World → Prop} {E : Prop} (hgd : o.guard = none) (s x : Operand) (t : TypeId)
    (ho : o.op = .call { callee := .builtin .append, args := #[s, x], argTypes := #[t, t] })
    (base : Nat) (e : TypeId) (i : TypeInfo) (z : Value) (size bytes : Nat) (ht : P.underlying t = some (.slice e)) (hi : P.info? e = some i) (hz : i.zero = some z)
    (hsize : i.size = size) (hby : i.bytes = bytes) (hzs : z.cells.size = size) (hsz : 0 < size)
    (v : Value) (n : Nat) (xs : List Value) (hs : a.eval s = v) (hown : w.ownsRow base e size v n xs)
    (ad : Addr) (m c : Nat) (news : List Value) (hx : a.eval x = .slice (some ad) m c) (hl : news.length = m * size) (hnews : ∀ j u, news[j]? = some u → w.cell? (ad.add j) = some u) (h1 : ∀ u ∈ news, u.oneCell' = true)
    (h63 : n + m ≤ maxLen) (hbytes : (n + m) * bytes ≤ 140737488355328) (hbase : base ≤ w.heap.size)
    (h : ∀ v' w', w'.ownsRow base e size v' (n + m) (xs ++ news) → w.grownBy w' v.ownBlock → (v'.ownBlock = v.ownBlock ∨ v'.ownBlock = some w.heap.size) → K (a.put o.dst v') w') : if Region.wanted o (yielded ops a.tmps) = true then Oper.wp P o a w K Q else E := by
  have hw : Region.wanted o (yielded ops a.tmps) = true := by simp [Region.wanted, hgd]
  rw [if_pos hw]
  obtain ⟨v', w', hr, h2, h3, _, h4⟩ := run_append_own_at (P := P) w base t o.type e i z size bytes ht hi hz hsize hby hzs hsz v n xs hown ad m c news hl hnews h1 h63 hbytes hbase
  unfold Oper.wp execOp
  simp only [ho, resolve, invoke, builtin, Sem.run_bind, Sem.run_pure, Result.andThen_ok, List.map_toArray, List.map_cons, List.map_nil, hs, hx, hr]
  exact h v' w' h2 h3 h4

theorem cell_1a (w : World) (v : Value) (t : TypeId) (o : Obj) : ((w.alloc (.cells #[v] t)).alloc o).cell? ⟨w.heap.size, 0, none⟩ = some v := by
  rw [World.cell?_alloc_lt _ _ _ (by simp)]; exact cell_new w v t
theorem cell_2a (w : World) (v : Value) (t : TypeId) (o : Obj) : ((w.alloc o).alloc (.cells #[v] t)).cell? ⟨w.heap.size + 1, 0, none⟩ = some v := by
  have := cell_new (w.alloc o) v t
  rw [World.size_alloc] at this
  exact this
theorem Own.rowN {w : World} {base n : Nat} {e : TypeId} {A : Option Addr} {c : Nat} {l : List Nat} (h : Own w base e A c l) (hn : n = l.length) : w.ownsRow base e 1 (.slice A n c) n (bys l) := by subst hn; exact h.1
end Gw
end
