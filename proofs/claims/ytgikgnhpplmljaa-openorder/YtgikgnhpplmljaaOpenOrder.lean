/- For every input OpenOrder returns true, and every argument reads behind the call as it did before: no condition. -/
import Derived.ProofKit
import Derived.OpenShut
import Derived.SizedLaws
import Derived.ChangeOld
import Derived.Carry
import Derived.Test.YtgikgnhpplmljaaRows
import Derived.Test.YtgikgnhpplmljaaJ1
import Derived.Test.YtgikgnhpplmljaaJ2
import Derived.Test.YtgikgnhpplmljaaJ3
import Derived.Test.YtgikgnhpplmljaaJ4
import Derived.Test.YtgikgnhpplmljaaJ5
import Derived.Test.YtgikgnhpplmljaaJ13
import Derived.Test.YtgikgnhpplmljaaJ14
import Derived.Test.YtgikgnhpplmljaaJ16
namespace Go.Proofs.Ytgikgnhpplmljaa.openOrder
open Go.ChangeShapes Go.WideShapes Go.ChangeAt Go.RowKit Go.Shelf Gw Pol

theorem own : ownKnob Try.prog.godebug = none := by kernel_rfl
theorem laidOut : laidOutB Try.prog = true := by kernel_rfl
theorem owns_base {w : World} {base base' n : Nat} {e : TypeId} {v : Value} {xs : List Value} (h : w.ownsRow base e 1 v n xs) (hb : base' ≤ base) : w.ownsRow base' e 1 v n xs := by
  refine ⟨h.1, ?_⟩
  rcases h.2 with h0 | ⟨g, cap, cur, hv, hg, h0⟩
  · exact .inl h0
  · exact .inr ⟨g, cap, cur, hv, by omega, h0⟩
theorem own_form {w : World} {base n : Nat} {e : TypeId} {v : Value} {xs : List Value} (h : w.ownsRow base e 1 v n xs) : ∃ A c, v = .slice A n c ∧ n ≤ c ∧ (A = none → c = 0) := by
  rcases h.2 with ⟨hv, h0⟩ | ⟨g, cap, cur, hv, _, _, h1, _⟩
  · subst hv; exact ⟨none, 0, by rw [h0], by omega, fun _ => rfl⟩
  · subst hv; exact ⟨_, cap, rfl, h1, fun h => by cases h⟩
set_option maxRecDepth 100000 in
set_option maxHeartbeats 1000000 in
theorem side_bad (a0 T0 K0 E0 R0 si : Int) (q1 : Nat) (A : Option Addr) (c N : Nat) (A3 : Option Addr) (c3 R : Nat) (w : World) (hbad : goodB a0 T0 K0 E0 R0 = false) :
    Calls Try.prog 7 #[pv a0 T0 K0 E0 R0, .int .i64 si, .slice A N c, .slice A3 R c3, .int .u8 (q1 : Int)] w fun e w' => e = .returned (.bool true) ∧ Below w.heap.size w w' := by
  have hb1 : Below w.heap.size w (w.alloc (.cells #[.int .i64 a0, .int .i64 T0, .int .i64 K0, .int .i64 E0, .int .i64 R0] 23)) := (Below.refl _ w).alloc (Nat.le_refl _) _
  have HG := Lib.hid (rgood_any a0 T0 K0 E0 R0 (w.alloc (.cells #[.int .i64 a0, .int .i64 T0, .int .i64 K0, .int .i64 E0, .int .i64 R0] 23)))
  rw [hbad] at HG
  clear hbad
  go_enter Try.func7, Try.ntmps7
  go_wp2_with fail
  refine HG.out.mono ?_
  rintro _ w2 ⟨rfl, hb2⟩
  have HB2 := Lib.hid (hb1.trans (hb2.mono hb1.size))
  clear hb1 hb2 HG
  go_wp2_with fail
  refine (answers_any w2).mono ?_
  rintro _ w9 ⟨rfl, hb9⟩
  go_wp2
  go_ret
  exact ⟨rfl, HB2.out.trans (hb9.mono HB2.out.size)⟩
set_option maxRecDepth 100000 in
set_option maxHeartbeats 4000000 in
theorem side_out (n t k e r : Nat) (hg0 : goodB n t k e r = true) (si : Int) (q1 : Nat) (A : Option Addr) (c N : Nat) (A3 : Option Addr) (c3 R : Nat) (w : World) (hno : 30 < n ∨ N ≠ R ∨ N = 0 ∨ si < 0 ∨ 60 < si) :
    Calls Try.prog 7 #[pv (n : Int) (t : Int) (k : Int) (e : Int) (r : Int), .int .i64 si, .slice A N c, .slice A3 R c3, .int .u8 (q1 : Int)] w fun e w' => e = .returned (.bool true) ∧ Below w.heap.size w w' := by
  have hpb1 := Pbx.new w 23 n t k e r
  have hb1 : Below w.heap.size w (w.alloc (.cells #[.int .i64 (n : Int), .int .i64 (t : Int), .int .i64 (k : Int), .int .i64 (e : Int), .int .i64 (r : Int)] 23)) := (Below.refl _ w).alloc (Nat.le_refl _) _
  have HG := Lib.hid (rgood_any n t k e r (w.alloc (.cells #[.int .i64 (n : Int), .int .i64 (t : Int), .int .i64 (k : Int), .int .i64 (e : Int), .int .i64 (r : Int)] 23)))
  rw [hg0] at HG
  go_enter Try.func7, Try.ntmps7
  go_wp2_with fail
  refine HG.out.mono ?_
  rintro _ w2 ⟨rfl, hb2⟩
  have HB2 := Lib.hid (hb1.trans (hb2.mono hb1.size))
  have HP2 := Lib.hid (hpb1.below hb2 hpb1.lt)
  obtain ⟨y0, y1, y2, y3, y4⟩ := HP2.out
  clear hb1 hb2 HG hpb1 hg0
  by_cases h1 : 30 < n
  · have f1 : (30 : Int) < (n : Int) := by omega
    clear hno h1
    go_wp2_with fail
    refine (answers_any w2).mono ?_
    rintro _ w9 ⟨rfl, hb9⟩
    go_wp2
    go_ret
    exact ⟨rfl, HB2.out.trans (hb9.mono HB2.out.size)⟩
  have f1 : ¬ ((30 : Int) < (n : Int)) := by omega
  by_cases h2 : N = R
  rotate_left
  · have f2 : ((N : Int) != (R : Int)) = true := by simp; omega
    clear hno h1 h2
    go_wp2_with fail
    refine (answers_any w2).mono ?_
    rintro _ w9 ⟨rfl, hb9⟩
    go_wp2
    go_ret
    exact ⟨rfl, HB2.out.trans (hb9.mono HB2.out.size)⟩
  subst h2
  have f2 : ((N : Int) != (N : Int)) = false := by simp
  by_cases h3 : N = 0
  · subst h3
    clear hno h1
    go_wp2_with fail
    refine (answers_any w2).mono ?_
    rintro _ w9 ⟨rfl, hb9⟩
    go_wp2
    go_ret
    exact ⟨rfl, HB2.out.trans (hb9.mono HB2.out.size)⟩
  have f3 : ((N : Int) == 0) = false := by rw [beq_eq_false_iff_ne]; omega
  have f3' : ¬ (N : Int) = 0 := by omega
  by_cases h4 : si < 0
  · clear hno h1 h3
    go_wp2_with fail
    refine (answers_any w2).mono ?_
    rintro _ w9 ⟨rfl, hb9⟩
    go_wp2
    go_ret
    exact ⟨rfl, HB2.out.trans (hb9.mono HB2.out.size)⟩
  have h5 : 60 < si := by omega
  clear hno h1 h3
  go_wp2_with fail
  refine (answers_any w2).mono ?_
  rintro _ w9 ⟨rfl, hb9⟩
  go_wp2
  go_ret
  exact ⟨rfl, HB2.out.trans (hb9.mono HB2.out.size)⟩
set_option maxRecDepth 100000 in
set_option maxHeartbeats 8000000 in
theorem side_main (n t k e r : Nat) (hg0 : goodB n t k e r = true) (_ht : 1 ≤ t) (hk : 1 ≤ k) (_hm : t + k + 2 * e ≤ n) (_hnk : n + k ≤ 255) (hn : n ≤ 30) (s q1 κ : Nat) (hs : s ≤ 60) (A : Option Addr) (c N : Nat) (z : List Int) (A3 : Option Addr) (c3 : Nat) (Q : Nat → Option Addr) (q : Nat → Nat) (l : Nat → List Nat) (w : World) (hN : N = z.length) (hN0 : 0 < N) (hq1 : q1 < 256) (hκe : κ = q1 % N) (wi : InZ w w.heap.size A c z) (wm : MIn w w.heap.size A3 c3 N Q q l) (hRb : N ≤ 5864062014634) :
    Calls Try.prog 7 #[pv (n : Int) (t : Int) (k : Int) (e : Int) (r : Int), .int .i64 (s : Int), .slice A N c, .slice A3 N c3, .int .u8 (q1 : Int)] w fun e w' => e = .returned (.bool true) ∧ Below w.heap.size w w' := by
  have f1 : ¬ ((30 : Int) < (n : Int)) := by omega
  have f2 : ((N : Int) != (N : Int)) = false := by simp
  have f3 : ((N : Int) == 0) = false := by rw [beq_eq_false_iff_ne]; omega
  have f3' : ¬ (N : Int) = 0 := by omega
  have f4 : ¬ ((s : Int) < 0) := by omega
  have f5 : ¬ ((60 : Int) < (s : Int)) := by omega
  have hκ : κ < N := by rw [hκe]; exact Nat.mod_lt _ hN0
  have f6 : (q1 : Int) % (N : Int) = (κ : Int) := by rw [hκe]; exact emod_nat q1 N
  have f8 : wrap64 (q1 : Int) = (q1 : Int) := wrap64_nat q1 (by omega)
  have f7 : ((q1 : Int)).tmod (N : Int) = (κ : Int) := by rw [hκe]; exact tmod_nat q1 N
  obtain ⟨i0, hi0, hz0, hz1, hz2⟩ := info_parts pint_info
  obtain ⟨i1, hj0, hj1, hj2, hj3⟩ := info_parts srow_info
  have HN := Lib.hid hN
  have HIZ := Lib.hid wi
  have HMI := Lib.hid wm
  have hcA := wi.cap
  rw [← hN] at hcA
  have hcR := wm.cap
  obtain ⟨ρ, hρ⟩ : ∃ ρ, ρ = N - κ := ⟨_, rfl⟩
  have hρ0 : 0 < ρ := by omega
  have hρb : ρ ≤ N := by omega
  have HRO := Lib.hid hρ.symm
  have HRN := Lib.hid (show ρ + κ = N by omega)
  have HWF := Lib.hid (show ∀ x ∈ z, (Lit.int .i64 x).wf = true from fun x hx => by
    obtain ⟨i, hi, rfl⟩ := List.getElem_of_mem hx
    exact (wi.sl i _ (List.getElem?_eq_getElem hi)).1)
  obtain ⟨b, off, hA⟩ : ∃ b off, A = some ⟨b, off, none⟩ := by
    obtain ⟨_, b, off, hA, _, _⟩ := wi.sl 0 z[0] (List.getElem?_eq_getElem (by omega))
    exact ⟨b, off, hA⟩
  subst hA
  obtain ⟨b3, off3, hA3⟩ : ∃ b off, A3 = some ⟨b, off, none⟩ := by
    obtain ⟨b3, off3, hA3, _, _, _⟩ := wm.rd 0 hN0
    exact ⟨b3, off3, hA3⟩
  subst hA3
  obtain ⟨d1, hd1⟩ : ∃ d1, d1 = c - κ := ⟨_, rfl⟩
  obtain ⟨o1, ho1⟩ : ∃ o1, o1 = off + κ := ⟨_, rfl⟩
  obtain ⟨d3, hd3⟩ : ∃ d3, d3 = c3 - κ := ⟨_, rfl⟩
  obtain ⟨o3, ho3⟩ : ∃ o3, o3 = off3 + κ := ⟨_, rfl⟩
  have FL1 := fun W => sl_l (P := Try.prog) iints_elem iints_one b off N c κ ρ d1 o1 hκ hcA hρ hd1 ho1 W
  have FL2 := fun W => sl_h (P := Try.prog) iints_elem iints_one b off N c κ hκ hcA W
  have FR1 := fun W => sl_l (P := Try.prog) irows_elem irows_one b3 off3 N c3 κ ρ d3 o3 hκ hcR hρ hd3 ho3 W
  have FR2 := fun W => sl_h (P := Try.prog) irows_elem irows_one b3 off3 N c3 κ hκ hcR W
  have hcell : ∀ W, Below w.heap.size w W → ∀ i u, (z.map (Value.int .i64))[i]? = some u → W.cell? ⟨b, off + i, none⟩ = some u := fun W hW i u hu => by
    rw [List.getElem?_map] at hu
    obtain ⟨x, hx, rfl⟩ := Option.map_eq_some_iff.1 hu
    obtain ⟨_, b', off', hA', _, hc'⟩ := (HIZ.out.below hW).sl i x hx
    injection hA' with hA'
    injection hA' with e1 e2
    subst e1 e2
    exact hc'
  have hcellR : ∀ W, Below w.heap.size w W → ∀ i u, (rvl Q q l N)[i]? = some u → W.cell? ⟨b3, off3 + i, none⟩ = some u := fun W hW i u hu => by
    have hi : i < N := by have := (List.getElem?_eq_some_iff.1 hu).1; rwa [rvl_len] at this
    simp [rvl, hi] at hu
    obtain ⟨b', off', hA', _, hc', _⟩ := (HMI.out.below hW).rd i hi
    injection hA' with hA'
    injection hA' with e1 e2
    subst e1 e2
    rw [hc', hu]
  have HD4 : Hid (∀ W, Below w.heap.size w W → ∀ j u, ((z.drop κ).map (Value.int .i64))[j]? = some u → W.cell? ((⟨b, o1, none⟩ : Addr).add j) = some u) := Lib.hid fun W hW j u hu => by
    rw [addr_add, ho1, Nat.add_assoc]
    refine hcell W hW (κ + j) u ?_
    rw [List.map_drop, List.getElem?_drop] at hu
    exact hu
  have HT4 : Hid (∀ W, Below w.heap.size w W → ∀ j u, ((z.take κ).map (Value.int .i64))[j]? = some u → W.cell? ((⟨b, off, none⟩ : Addr).add j) = some u) := Lib.hid fun W hW j u hu => by
    rw [addr_add]
    refine hcell W hW j u ?_
    have hj : j < κ := by have := (List.getElem?_eq_some_iff.1 hu).1; simp at this; omega
    rw [List.map_take, List.getElem?_take_of_lt hj] at hu
    exact hu
  have HD5 : Hid (∀ W, Below w.heap.size w W → ∀ j u, ((rvl Q q l N).drop κ)[j]? = some u → W.cell? ((⟨b3, o3, none⟩ : Addr).add j) = some u) := Lib.hid fun W hW j u hu => by
    rw [addr_add, ho3, Nat.add_assoc]
    refine hcellR W hW (κ + j) u ?_
    rw [List.getElem?_drop] at hu
    exact hu
  have HT5 : Hid (∀ W, Below w.heap.size w W → ∀ j u, ((rvl Q q l N).take κ)[j]? = some u → W.cell? ((⟨b3, off3, none⟩ : Addr).add j) = some u) := Lib.hid fun W hW j u hu => by
    rw [addr_add]
    refine hcellR W hW j u ?_
    have hj : j < κ := by have := (List.getElem?_eq_some_iff.1 hu).1; simp at this; omega
    rw [List.getElem?_take_of_lt hj] at hu
    exact hu
  clear hcell hcellR hρ hd1 ho1 hd3 ho3 wi wm hκe hN
  have hpb1 := Pbx.new w 23 n t k e r
  have hb1 : Below w.heap.size w (w.alloc (.cells #[.int .i64 (n : Int), .int .i64 (t : Int), .int .i64 (k : Int), .int .i64 (e : Int), .int .i64 (r : Int)] 23)) := (Below.refl _ w).alloc (Nat.le_refl _) _
  have HG := Lib.hid (rgood_any n t k e r (w.alloc (.cells #[.int .i64 (n : Int), .int .i64 (t : Int), .int .i64 (k : Int), .int .i64 (e : Int), .int .i64 (r : Int)] 23)))
  rw [hg0] at HG
  go_enter Try.func7, Try.ntmps7
  go_wp2_with fail
  refine HG.out.mono ?_
  rintro _ w2 ⟨rfl, hb2⟩
  have HB2 := Lib.hid (hb1.trans (hb2.mono hb1.size))
  have HP2 := Lib.hid (hpb1.below hb2 hpb1.lt)
  obtain ⟨y0, y1, y2, y3, y4⟩ := HP2.out
  clear hb1 hb2 HG hpb1
  go_wp2
  clear y0 y1 y2 y3 y4
  refine Gt.regionB [NoneIs, Gt.Is (.slice (some ⟨b, off, none⟩) N c), Gt.Is (.int .i64 (κ : Int)), Gt.Is (.slice (some ⟨b, o1, none⟩) ρ d1), VIs w2.heap.size 3 ρ ((z.drop κ).map (Value.int .i64)), Gt.Is (.slice (some ⟨b, off, none⟩) N c), Gt.Is (.int .i64 (κ : Int)), Gt.Is (.slice (some ⟨b, off, none⟩) κ c)] 112 8
    [⟨[], [], none⟩, ⟨[], [2], none⟩, ⟨[], [11], none⟩, ⟨[(1, 56), (2, 57)], [], none⟩, ⟨[(0, 55), (3, 58)], [], none⟩, ⟨[], [2], none⟩, ⟨[], [11], none⟩, ⟨[(5, 60), (6, 61)], [], none⟩, ⟨[(4, 59), (7, 62)], [], none⟩, ⟨[(8, 63)], [], none⟩]
    [(0, 55), (1, 56), (2, 57), (3, 58), (4, 59), (5, 60), (6, 61), (7, 62)] (by kernel_rfl) (by kernel_rfl) (by kernel_rfl) (by kernel_rfl) (by kernel_rfl) ?_ ?_ ?_
  · simp only [Gt.Monos]
    repeat' apply And.intro
    all_goals (first | exact trivial | exact Gt.Is.mono _ | exact NoneIs.mono | exact VIs.mono _ _ _ _)
  · simp only [List.take_succ_cons, List.take_zero, Gt.Obs]
    repeat' apply And.intro
    all_goals try exact trivial
    all_goals (
      intro a w5 hg
      have hg' : Below w2.heap.size w2 w5 := hg
      simp only [Gt.Pre, Gt.Kept, Gt.Guarded, Gt.tys, List.getD_cons_zero, List.getD_cons_succ, Gt.Is, Nat.zero_add, Nat.reduceAdd]
      intros
      try (refine ⟨fun _ => ?_, fun hne => absurd (by assumption) hne⟩))
    all_goals (first
      | exact Gt.ok_move rfl (by assumption)
      | exact Gt.ok_assign rfl (by assumption)
      | exact Gt.ok_pick rfl (by assumption) (by rw [if_pos rfl]; assumption)
      | (refine Gt.ok_runW (v := .slice (some ⟨w5.heap.size, 0, none⟩) 0 0) (w' := w5.alloc (.cells #[] 3)) ?_ ((Below.refl _ _).alloc (Nat.le_refl _) _) ⟨_, rfl⟩
         simp only [execOp, List.map_toArray, List.map_nil]
         go_simp
         done)
      | (refine Gt.ok_run ?_ rfl
         simp only [execOp, Option.map_some, Option.map_none, *]
         go_simp
         done)
      | (obtain ⟨g6, hv6⟩ : NoneIs (a.eval (.tmp 55)) w5 := by assumption
         obtain ⟨v, w6, hr6, ho6, hb6⟩ := run_appV (P := Try.prog) (w := w5) 24 24 3 i0 (.int .i64 0) 8 Try.underlying24 hi0 hz0 hz1 hz2 rfl g6 ⟨b, o1, none⟩ ρ d1 ((z.drop κ).map (Value.int .i64)) hρ0 (by rw [List.length_map, List.length_drop, ← HN.out, HRO.out]) (fun j u hj => HD4.out w5 (HB2.out.trans (hg'.mono HB2.out.size)) j u hj) (by simp only [maxLen]; omega) (by omega)
         exact ok_app rfl hv6 (by assumption) hr6 hb6 ⟨Nat.le_trans hg'.size hb6.size, by have := hg'.size; exact owns_base ho6 this⟩))
  · intro a w5 hg
    have hg' : Below w2.heap.size w2 w5 := hg
    simp only [Gt.Pre, Gt.tys, List.getD_cons_zero, List.getD_cons_succ, Gt.Is]
    intro h0 h1 h2 h3 h4 h5 h6 h7
    obtain ⟨_, h0⟩ := h0
    obtain ⟨hs4, hv4⟩ := h4
    obtain ⟨v59, hv59⟩ : ∃ v59, v59 = a.eval (.tmp 59) := ⟨_, rfl⟩
    obtain ⟨k4, q4, hq4, _, _⟩ := own_form hv4
    rw [← hv59] at hv4 hq4
    subst hq4
    have h4' := hv59.symm
    simp only [Gt.puts, List.foldl_cons, List.foldl_nil, h0, h1, h2, h3, h4', h5, h6, h7]
    simp only [Act.put, List.setIfInBounds_toArray, List.set_cons_zero, List.set_cons_succ]
    simp only [List.drop_succ_cons, List.drop_zero]
    have HB5 := Lib.hid (HB2.out.trans (hg'.mono HB2.out.size))
    have HG5 := Lib.hid hg'
    have HV4 := Lib.hid hv4
    clear h0 h1 h2 h3 h4' h5 h6 h7 hv59 hv4 hg
    obtain ⟨w6, hw6⟩ : ∃ w6, w6 = w5 := ⟨_, rfl⟩
    rw [← hw6] at HB5 HG5 HV4 hs4 ⊢
    clear hw6 hg'
    go_wp2_with (first
      | (at_builtin; refine wpList_append_own _ rfl (.tmp 59) (.tmp 62) 24 rfl w2.heap.size 3 i0 (.int .i64 0) 1 8 Try.underlying24 hi0 hz0 hz1 hz2 rfl (by decide) _ ρ ((z.drop κ).map (Value.int .i64)) rfl HV4.out ⟨b, off, none⟩ κ c ((z.take κ).map (Value.int .i64)) rfl (by rw [List.length_map, List.length_take, ← HN.out]; omega) (fun j u hj => HT4.out w6 HB5.out j u hj) intz_one (by simp only [maxLen]; omega) (by omega) hs4 ?_; intro v' w7 hown7 hgr7 _)
      | fail)
    rw [← List.map_append, HRN.out] at hown7
    have HB7 := Lib.hid (HB5.out.grown hgr7 HB5.out.size (fun r hr => Nat.le_trans HB2.out.size (owns_blk HV4.out hr).1))
    have HG7 : Hid (Below w2.heap.size w2 w7) := Lib.hid (HG5.out.grown hgr7 HG5.out.size (fun r hr => (owns_blk HV4.out hr).1))
    have HO7 := Lib.hid hown7
    clear hown7 hgr7 hs4
    refine Gt.regionB [NoneIs, Gt.Is (.slice (some ⟨b3, off3, none⟩) N c3), Gt.Is (.int .i64 (κ : Int)), Gt.Is (.slice (some ⟨b3, o3, none⟩) ρ d3), VIs w7.heap.size 36 ρ ((rvl Q q l N).drop κ), Gt.Is (.slice (some ⟨b3, off3, none⟩) N c3), Gt.Is (.int .i64 (κ : Int)), Gt.Is (.slice (some ⟨b3, off3, none⟩) κ c3)] 112 8
      [⟨[], [], none⟩, ⟨[], [3], none⟩, ⟨[], [11], none⟩, ⟨[(1, 65), (2, 66)], [], none⟩, ⟨[(0, 64), (3, 67)], [], none⟩, ⟨[], [3], none⟩, ⟨[], [11], none⟩, ⟨[(5, 69), (6, 70)], [], none⟩, ⟨[(4, 68), (7, 71)], [], none⟩, ⟨[(8, 72)], [], none⟩]
      [(0, 64), (1, 65), (2, 66), (3, 67), (4, 68), (5, 69), (6, 70), (7, 71)] (by kernel_rfl) (by kernel_rfl) (by kernel_rfl) (by kernel_rfl) (by kernel_rfl) ?_ ?_ ?_
    · simp only [Gt.Monos]
      repeat' apply And.intro
      all_goals (first | exact trivial | exact Gt.Is.mono _ | exact NoneIs.mono | exact VIs.mono _ _ _ _)
    · simp only [List.take_succ_cons, List.take_zero, Gt.Obs]
      repeat' apply And.intro
      all_goals try exact trivial
      all_goals (
        intro a w5 hg
        have hg' : Below w7.heap.size w7 w5 := hg
        simp only [Gt.Pre, Gt.Kept, Gt.Guarded, Gt.tys, List.getD_cons_zero, List.getD_cons_succ, Gt.Is, Nat.zero_add, Nat.reduceAdd]
        intros
        try (refine ⟨fun _ => ?_, fun hne => absurd (by assumption) hne⟩))
      all_goals (first
        | exact Gt.ok_move rfl (by assumption)
        | exact Gt.ok_assign rfl (by assumption)
        | exact Gt.ok_pick rfl (by assumption) (by rw [if_pos rfl]; assumption)
        | (refine Gt.ok_runW (v := .slice (some ⟨w5.heap.size, 0, none⟩) 0 0) (w' := w5.alloc (.cells #[] 36)) ?_ ((Below.refl _ _).alloc (Nat.le_refl _) _) ⟨_, rfl⟩
           simp only [execOp, List.map_toArray, List.map_nil]
           go_simp
           done)
        | (refine Gt.ok_run ?_ rfl
           simp only [execOp, Option.map_some, Option.map_none, *]
           go_simp
           done)
        | (obtain ⟨g6, hv6⟩ : NoneIs (a.eval (.tmp 64)) w5 := by assumption
           obtain ⟨v, w6, hr6, ho6, hb6⟩ := run_appV (P := Try.prog) (w := w5) 25 25 36 i1 (.slice none 0 0) 24 Try.underlying25 hj0 hj1 hj2 hj3 rfl g6 ⟨b3, o3, none⟩ ρ d3 ((rvl Q q l N).drop κ) hρ0 (by rw [List.length_drop, rvl_len, HRO.out]) (fun j u hj => HD5.out w5 (HB7.out.trans (hg'.mono HB7.out.size)) j u hj) (by simp only [maxLen]; omega) (by omega)
           exact ok_app rfl hv6 (by assumption) hr6 hb6 ⟨Nat.le_trans hg'.size hb6.size, owns_base ho6 hg'.size⟩))
    · intro a w5 hg
      have hg' : Below w7.heap.size w7 w5 := hg
      simp only [Gt.Pre, Gt.tys, List.getD_cons_zero, List.getD_cons_succ, Gt.Is]
      intro h0 h1 h2 h3 h4 h5 h6 h7
      obtain ⟨_, h0⟩ := h0
      obtain ⟨hs4, hv4⟩ := h4
      obtain ⟨v68, hv68⟩ : ∃ v68, v68 = a.eval (.tmp 68) := ⟨_, rfl⟩
      obtain ⟨k5, q5, hq5, _, _⟩ := own_form hv4
      rw [← hv68] at hv4 hq5
      subst hq5
      have h4' := hv68.symm
      simp only [Gt.puts, List.foldl_cons, List.foldl_nil, h0, h1, h2, h3, h4', h5, h6, h7]
      simp only [Act.put, List.setIfInBounds_toArray, List.set_cons_zero, List.set_cons_succ]
      simp only [List.drop_succ_cons, List.drop_zero]
      have HG8 := Lib.hid hg'
      have HV5 := Lib.hid hv4
      clear h0 h1 h2 h3 h4' h5 h6 h7 hv68 hv4 hg
      obtain ⟨w8, hw8⟩ : ∃ w8, w8 = w5 := ⟨_, rfl⟩
      rw [← hw8] at HG8 HV5 hs4 ⊢
      clear hw8 hg'
      have HG8w := Lib.hid (HG7.out.trans (HG8.out.mono HG7.out.size))
      go_wp2_with (first
        | (at_builtin; refine wpList_append_own _ rfl (.tmp 68) (.tmp 71) 25 rfl w7.heap.size 36 i1 (.slice none 0 0) 1 24 Try.underlying25 hj0 hj1 hj2 hj3 rfl (by decide) _ ρ ((rvl Q q l N).drop κ) rfl HV5.out ⟨b3, off3, none⟩ κ c3 ((rvl Q q l N).take κ) rfl (by rw [List.length_take, rvl_len]; omega) (fun j u hj => HT5.out w8 (HB2.out.trans (HG8w.out.mono HB2.out.size)) j u hj) (fun u hu => rvl_one u (List.mem_of_mem_take hu)) (by simp only [maxLen]; omega) (by rw [HRN.out]; omega) hs4 ?_; intro v'' w9 hown9 hgr9 _)
        | fail)
      rw [rvl_rot (by omega), HRN.out] at hown9
      have HG9 : Hid (Below w7.heap.size w7 w9) := Lib.hid (HG8.out.grown hgr9 HG8.out.size (fun r hr => (owns_blk HV5.out hr).1))
      have HG9w := Lib.hid (HG7.out.trans (HG9.out.mono HG7.out.size))
      have HB9 := Lib.hid (HB2.out.trans (HG9w.out.mono HB2.out.size))
      clear hgr9 hs4
      obtain ⟨Ar, cr, rfl, hMR⟩ := rows_min (B := w.heap.size) hown9 (fun i hi => by
        obtain ⟨_, _, _, _, _, h4⟩ := (HMI.out.below HB9.out).rd (rotS N κ i) ((rotS_sig (by omega)).lt hi)
        exact h4) HB9.out.size
      obtain ⟨Az, cz, rfl, hnz, hIZ⟩ := ownz_inz (owns_by HO7.out (row := none) ⟨HG9.out.os, HG9.out.tape, HG9.out.output, HG9.out.size, fun i hi _ => HG9.out.block i hi⟩ (fun _ h => by cases h)) (fun x hx => HWF.out x (by rcases List.mem_append.1 hx with h | h; exact List.mem_of_mem_drop h; exact List.mem_of_mem_take h))
      have HMR := Lib.hid hMR
      rw [← zTo_rot (by omega) z HN.out.symm] at hIZ
      have HIR := Lib.hid hIZ
      have HP9 := Lib.hid (HP2.out.below HG9w.out HP2.out.lt)
      clear hown9 hMR hIZ hnz
      go_wp2_with fail
      refine (new_any w9).mono ?_
      rintro _ w10 ⟨rfl, hF10, hb10⟩
      have HF10 := Lib.hid hF10
      have HB10 := Lib.hid (HB9.out.trans (hb10.mono HB9.out.size))
      have HMR10 := Lib.hid ((HMR.out.below hb10).more hb10.size)
      have HIR10 := Lib.hid ((HIR.out.below hb10).more hb10.size)
      have HP10 := Lib.hid (HP9.out.below hb10 HP9.out.lt)
      clear hb10 hF10
      obtain ⟨y0, y1, y2, y3, y4⟩ := HP10.out
      by_cases hFd : ∃ P, Fnd n t k e (Sp.cnt s k) z N l P
      · obtain ⟨P, hFd⟩ := hFd
        have HF := Lib.hid hFd
        have HFR := Lib.hid (hFd.to (by omega) (rotS_sig (show κ ≤ N by omega)))
        obtain ⟨nw, hnw⟩ : ∃ nw, nw = (wrongL n z N l P (Sp.cnt s k)).length := ⟨_, rfl⟩
        have HNW := Lib.hid hnw
        have HWRR : Hid (wrongL n (zTo z N (rotS N κ)) N (fun i => l (rotS N κ i)) P (Sp.cnt s k) = wrongL n z N l P (Sp.cnt s k)) := Lib.hid (wrongL_to HN.out.symm (rotS_sig (by omega)))
        have HNWR : Hid (nw = (wrongL n (zTo z N (rotS N κ)) N (fun i => l (rotS N κ i)) P (Sp.cnt s k)).length) := Lib.hid (by rw [HWRR.out]; exact hnw)
        clear hFd hnw
        go_wp2_with fail
        refine (oopen_any n t k e r N s hg0 w9.heap.size (some ⟨b, off, none⟩) (some ⟨b3, off3, none⟩) c c3 N z HN.out Q q l w10 HF10.out ((HIZ.out.below HB10.out).more HB10.out.size) ((HMI.out.below HB10.out).more HB10.out.size) (by omega) (by omega) (by omega)).mono ?_
        rintro en w11 h11
        obtain ⟨v11, rfl, hv11, hb11⟩ := op_yes (nw := nw) h11 (by omega) HF.out HNW.out
        obtain ⟨Ax, cx, Av, cv, rfl, hd, hj⟩ := hv11
        have HB11 := Lib.hid (HB10.out.trans (hb11.mono HB10.out.size))
        have HMR11 := Lib.hid ((HMR10.out.below hb11).more hb11.size)
        have HIR11 := Lib.hid ((HIR10.out.below hb11).more hb11.size)
        have HP11 := Lib.hid (HP10.out.below hb11 HP10.out.lt)
        have HF11 := Lib.hid (HF10.out.below hb11 HF10.out.lt)
        have HD11 := Lib.hid hd
        have HJ11 := Lib.hid hj
        clear hd hj
        clear y0 y1 y2 y3 y4 hb11 h11
        obtain ⟨y0, y1, y2, y3, y4⟩ := HP11.out
        go_wp2_with fail
        refine (oopen_any n t k e r N s hg0 w9.heap.size Az Ar cz cr N (zTo z N (rotS N κ)) (by rw [zTo_len]) (fun i => Q (rotS N κ i)) (fun i => q (rotS N κ i)) (fun i => l (rotS N κ i)) w11 HF11.out HIR11.out HMR11.out (by omega) (by omega) (by omega)).mono ?_
        rintro en w12 h12
        obtain ⟨v12, rfl, hv12, hb12⟩ := op_yes (nw := nw) h12 (by omega) HFR.out HNWR.out
        obtain ⟨Ay, cy, Aw, cw, rfl, hd2, hj2⟩ := hv12
        have HB12 := Lib.hid (HB11.out.trans (hb12.mono HB11.out.size))
        have HD12 := Lib.hid hd2
        have HJ12 := Lib.hid hj2
        have HD12a := Lib.hid ((HD11.out.below hb12).more hb12.size)
        have HJ12a := Lib.hid (HJ11.out.below hb12)
        clear hd2 hj2
        clear y0 y1 y2 y3 y4 hb12 h12
        go_wp2_with fail
        refine (answers_any w12).mono ?_
        rintro _ w13 ⟨rfl, hb13⟩
        have HB13 := Lib.hid (HB12.out.trans (hb13.mono HB12.out.size))
        have k1 := conv_sl (P := Try.prog) (HD12a.out.below hb13).sl Try.underlying36 Try.underlying5 Try.underlying9 cx
        have k2 := conv_sl (P := Try.prog) (HD12.out.below hb13).sl Try.underlying36 Try.underlying5 Try.underlying9 cy
        rw [docL_len] at k1 k2
        obtain ⟨σ, hσ⟩ : ∃ σ, σ = str (docL n k s P) := ⟨_, rfl⟩
        rw [← hσ] at k1 k2
        have hst : (σ.toList == σ.toList) = true := by simp
        have HSI := Lib.hid (sameInts_any Av Aw cv cw (wrongL n z N l P (Sp.cnt s k)) (wrongL n z N l P (Sp.cnt s k)) w13 (HJ12a.out.below hb13) (by have := HJ12.out.below hb13; rw [HWRR.out] at this; exact this) (by have := wrongL_len n z N l P (Sp.cnt s k); omega))
        rw [decide_eq_true rfl, ← HNW.out] at HSI
        clear hb13 hσ
        go_wp2_with fail
        refine HSI.out.mono ?_
        rintro _ w14 ⟨rfl, d, rfl⟩
        go_wp2
        go_ret
        exact ⟨rfl, Gw.Below.drewN HB13.out d⟩
      · have HNF := Lib.hid hFd
        have HNFR : Hid (¬ ∃ P, Fnd n t k e (Sp.cnt s k) (zTo z N (rotS N κ)) N (fun i => l (rotS N κ i)) P) := Lib.hid (fun ⟨P, hP⟩ => by
          have h1 : Fno n t k e ((Sp.cnt s k : Nat) : Int) z N l := Classical.byContradiction fun h => hFd (fnd_of_not h)
          exact hP.not (h1.to HN.out.symm (by omega) (rotS_sig (by omega))))
        clear hFd
        go_wp2_with fail
        refine (oopen_any n t k e r N s hg0 w9.heap.size (some ⟨b, off, none⟩) (some ⟨b3, off3, none⟩) c c3 N z HN.out Q q l w10 HF10.out ((HIZ.out.below HB10.out).more HB10.out.size) ((HMI.out.below HB10.out).more HB10.out.size) (by omega) (by omega) (by omega)).mono ?_
        rintro en w11 h11
        obtain ⟨v11, rfl, hv11, hb11⟩ := op_no h11 HNF.out
        obtain ⟨Ax, cx, Av, cv, rfl⟩ := hv11
        have HB11 := Lib.hid (HB10.out.trans (hb11.mono HB10.out.size))
        have HMR11 := Lib.hid ((HMR10.out.below hb11).more hb11.size)
        have HIR11 := Lib.hid ((HIR10.out.below hb11).more hb11.size)
        have HP11 := Lib.hid (HP10.out.below hb11 HP10.out.lt)
        have HF11 := Lib.hid (HF10.out.below hb11 HF10.out.lt)
        clear y0 y1 y2 y3 y4 hb11 h11
        obtain ⟨y0, y1, y2, y3, y4⟩ := HP11.out
        go_wp2_with fail
        refine (oopen_any n t k e r N s hg0 w9.heap.size Az Ar cz cr N (zTo z N (rotS N κ)) (by rw [zTo_len]) (fun i => Q (rotS N κ i)) (fun i => q (rotS N κ i)) (fun i => l (rotS N κ i)) w11 HF11.out HIR11.out HMR11.out (by omega) (by omega) (by omega)).mono ?_
        rintro en w12 h12
        obtain ⟨v12, rfl, hv12, hb12⟩ := op_no h12 HNFR.out
        obtain ⟨Ay, cy, Aw, cw, rfl⟩ := hv12
        have HB12 := Lib.hid (HB11.out.trans (hb12.mono HB11.out.size))
        clear y0 y1 y2 y3 y4 hb12 h12
        go_wp2_with fail
        refine (answers_any w12).mono ?_
        rintro _ w13 ⟨rfl, hb13⟩
        have HB13 := Lib.hid (HB12.out.trans (hb13.mono HB12.out.size))
        have k1 := conv_sl (P := Try.prog) (Sl.nil (w := w13) (B := 0) (A := Ax)) Try.underlying36 Try.underlying5 Try.underlying9 cx
        have k2 := conv_sl (P := Try.prog) (Sl.nil (w := w13) (B := 0) (A := Ay)) Try.underlying36 Try.underlying5 Try.underlying9 cy
        rw [List.length_nil] at k1 k2
        obtain ⟨σ, hσ⟩ : ∃ σ, σ = str [] := ⟨_, rfl⟩
        rw [← hσ] at k1 k2
        have hst : (σ.toList == σ.toList) = true := by simp
        clear hb13 hσ
        go_wp2_with fail
        refine (osint0 Av Aw cv cw w13).mono ?_
        rintro _ w14 ⟨rfl, rfl⟩
        go_wp2
        go_ret
        exact ⟨rfl, HB13.out⟩
      
    
theorem walk (a0 T0 K0 E0 R0 : Int) (a1 : Int) (A2 : Option Addr) (c2 : Nat) (z2 : List Int) (A3 : Option Addr) (c3 R3 : Nat) (P3 : Nat → Option Addr) (n3 : Nat → Nat) (l3 : Nat → List Nat) (a4 : Int) (w : World) (_w0 : (Lit.int .i64 a0).wf = true ∧ (Lit.int .i64 T0).wf = true ∧ (Lit.int .i64 K0).wf = true ∧ (Lit.int .i64 E0).wf = true ∧ (Lit.int .i64 R0).wf = true) (_w1 : (Lit.int .i64 a1).wf = true) (w2 : InZ w w.heap.size A2 c2 z2) (_s2 : c2 ≤ 17592186043904) (w3 : MIn w w.heap.size A3 c3 R3 P3 n3 l3) (s3 : c3 ≤ 5864062014634) (_b3 : ∀ i, BB (l3 i)) (w4 : (Lit.int .u8 a4).wf = true) :
    Calls Try.prog 7 #[pv a0 T0 K0 E0 R0, .int .i64 a1, .slice A2 z2.length c2, .slice A3 R3 c3, .int .u8 a4] w fun e w' => e = .returned (.bool true) ∧ Below w.heap.size w w' := by
  have hc3 := w3.cap
  obtain ⟨g1, g2⟩ := bounds_u8 w4
  obtain ⟨q, rfl⟩ := Int.eq_ofNat_of_zero_le g1
  cases hg : goodB a0 T0 K0 E0 R0 with
  | false => exact side_bad a0 T0 K0 E0 R0 a1 q A2 c2 _ A3 c3 R3 w hg
  | true =>
    obtain ⟨n, t, k, e, r, rfl, rfl, rfl, rfl, rfl, h1, h2, h3, h4, h5, h6⟩ := goodB_nat hg
    by_cases hno : 30 < n ∨ z2.length ≠ R3 ∨ z2.length = 0 ∨ a1 < 0 ∨ 60 < a1
    · exact side_out n t k e r hg a1 q A2 c2 _ A3 c3 R3 w hno
    · simp only [not_or, Classical.not_not] at hno
      obtain ⟨b1, b2, b3, b4, b5⟩ := hno
      subst b2
      obtain ⟨s, rfl⟩ : ∃ s : Nat, a1 = (s : Int) := ⟨a1.toNat, by omega⟩
      exact side_main n t k e r hg h1 h2 h5 h6 (by omega) s q _ (by omega) A2 c2 _ z2 A3 c3 P3 n3 l3 w rfl (by omega) (by omega) rfl w2 w3 (by omega)

set_option maxRecDepth 100000 in
theorem lifted (os : Os) (started : os.Started) (H : Type) (enc : TypeId × Value → H) :
    ReturnsInHanded {} Try.checked os 7 .any (Rows.openOrderSpec.pre6 enc Try.prog Try.f7 Rows.openOrderRow.domain false) (Rows.openOrderSpec.post enc Try.prog Try.f7 false true false false) := by
  refine returnsInHanded_of_change_sized (C := Try.checked) own started (by kernel_rfl) Try.func7
    (ChangeSpec.witness6 (enc := enc) (C := Try.checked) false ⟨#[], #[.agg #[.int .i64 0, .int .i64 0, .int .i64 0, .int .i64 0, .int .i64 0], .int .i64 0, .slice none 0 0, .slice none 0 0, .int .u8 0], []⟩ 8 (by kernel_rfl) (by kernel_rfl) (by kernel_rfl) (by kernel_rfl)) ?_
  intro W base args ds gs before hval0 hW _hcnd hsz0 _
  have hval : ∀ (j : Nat) t v, Try.f7.params[j]? = some t → args[j]? = some v → Value.okWide Try.prog W .any base t v := hval0
  have hW' := hW
  obtain ⟨p, q, hA0, hV, rfl, _hfz, _hnd⟩ := hW
  have hA : DataW.TrodAll enc Try.prog W 0 (fun _ => true) true Try.f7.params.toList args.toList ds p := hA0
  have hsz : (DataW.weightsEach Try.prog (Try.f7.params.toList ++ Rows.openOrderSpec.plain.varTypes Try.prog) (ds ++ gs)).all (· ≤ reachBytes) = true := hsz0
  rw [Try.params7] at hA hval hsz
  obtain ⟨v0, vs0, d0, ds0, p0, q0, hargs, rfl, rfl, h0, r0⟩ := trodAll_cons hA
  obtain ⟨v1, vs1, d1, ds1, p1, q1, rfl, rfl, rfl, h1, r1⟩ := trodAll_cons r0
  obtain ⟨v2, vs2, d2, ds2, p2, q2, rfl, rfl, rfl, h2, r2⟩ := trodAll_cons r1
  obtain ⟨v3, vs3, d3, ds3, p3, q3, rfl, rfl, rfl, h3, r3⟩ := trodAll_cons r2
  obtain ⟨v4, vs4, d4, ds4, p4, q4, rfl, rfl, rfl, h4, r4⟩ := trodAll_cons r3
  obtain ⟨rfl, rfl, rfl⟩ := trodAll_nil r4
  obtain rfl : args = #[v0, v1, v2, v3, v4] := by cases args; simp_all
  obtain ⟨rfl, rfl⟩ := trodVars_none hV
  obtain ⟨a0, T0, K0, E0, R0, rfl, rfl, rfl, w0⟩ := open_five Try.underlying23 (by kernel_rfl) (by kernel_rfl) rfl rfl rfl rfl rfl Try.underlying3 (hval 0 23 v0 rfl rfl) h0
  obtain ⟨a1, rfl, rfl, rfl, w1⟩ := open_int Try.underlying3 (hval 1 3 v1 rfl rfl) h1
  have k2 := h2
  have lt2 : ∀ x ∈ p2, x.block < W.heap.size := by obtain ⟨m, hm⟩ := k2; exact DataW.trod_lt m _ _ _ hm
  obtain ⟨A2, c2, z2, rfl, w2, sz2⟩ := open_intz Try.underlying24 Try.underlying3 (by kernel_rfl) (hval 2 24 v2 rfl rfl) h2
  have s2 := sized_ints hsz (j := 2) (t := 24) (e := 3) rfl rfl Try.underlying24 (by kernel_rfl) sz2
  have k3 := h3
  have lt3 : ∀ x ∈ p3, x.block < W.heap.size := by obtain ⟨m, hm⟩ := k3; exact DataW.trod_lt m _ _ _ hm
  obtain ⟨A3, c3, R3, P3, n3, l3, rfl, w3, b3, sz3, sh3⟩ := open_rows Try.underlying25 Try.underlying36 Try.underlying5 (by kernel_rfl) (by kernel_rfl) (hval 3 25 v3 rfl rfl) h3
  have s3 := sized_rows hsz (j := 3) (t := 25) (e := 36) rfl rfl Try.underlying25 (by kernel_rfl) sz3
  obtain ⟨a4, rfl, rfl, rfl, w4⟩ := open_int Try.underlying5 (hval 4 5 v4 rfl rfl) h4
  clear hA0 hval0 hsz0 hsz
  refine (walk a0 T0 K0 E0 R0 a1 A2 c2 z2 A3 c3 R3 P3 n3 l3 a4 W w0 w1 w2 s2 w3 s3 b3 w4).mono fun e W' ⟨he, bel⟩ => ?_
  subst he
  exact ⟨_, rfl, _, _, _, [], _, [], hW', trodAll_mk1 (shut_bool Try.underlying4 _), (trodAll_cons_mk (shut_five Try.underlying23 (by kernel_rfl) (by kernel_rfl) rfl rfl rfl rfl rfl Try.underlying3 w0) (trodAll_cons_mk (shut_int Try.underlying3 w1) (trodAll_cons_mk (Below.trod laidOut (by kernel_rfl) (of_decide_eq_true (by kernel_rfl)) k2 bel lt2) (trodAll_cons_mk (Below.trod laidOut (by kernel_rfl) (of_decide_eq_true (by kernel_rfl)) k3 bel lt3) (trodAll_cons_mk (shut_int Try.underlying5 w4) trodAll_mk0))))), rfl, bel.frame _, fun h => by cases h⟩

theorem over : Rows.openOrderRow.holds Try.pinned (OpenSpec.ofChange Rows.openOrderSpec) :=
  OpenClaim.holds_of_wide 7 Try.f7 rfl rfl rfl rfl rfl rfl rfl ⟨rfl, rfl, rfl, rfl, rfl⟩ rfl rfl rfl rfl rfl (by kernel_rfl) Try.func7 (by kernel_rfl)
    (of_decide_eq_true (by kernel_rfl)) (by unfold Func.isWrapper; first | (rw [if_pos (by decide +kernel)]; kernel_rfl) | (rw [if_neg (by decide +kernel)]; exact ⟨rfl, rfl⟩))
    (fun os started H enc _ => lifted os started H enc)

end Go.Proofs.Ytgikgnhpplmljaa.openOrder
namespace Go.Proofs.Ytgikgnhpplmljaa
/-- The statement. -/
theorem openOrder_holds : Rows.OpenOrderSaid := openOrder.over
#print axioms openOrder_holds
end Go.Proofs.Ytgikgnhpplmljaa

