/- What wire's reader.heads does. -/
import Derived.Test.YtabalhhodcajmaaWig
import Derived.Test.YtabalhhodcajmaaGtv
namespace Gw
open Go Go.RowKit Go.Shelf Pol
/-- A block of heads of the call's own: the first k are told. -/
structure Hz (w : World) (y n : Nat) (z : List (List Nat × Int)) : Prop where
  told : ∀ (j : Nat) (x : List Nat × Int), z[j]? = some x → w.cell? ⟨y, j * 2, none⟩ = some (.string (str x.1)) ∧ w.cell? ⟨y, j * 2 + 1, none⟩ = some (.int .i64 x.2)
  some_ : ∀ j, j < 2 * n → ∃ v, w.cell? ⟨y, j, none⟩ = some v
  fr : ∀ j, w.frozen? ⟨y, j, none⟩ = false
  lt : y < w.heap.size
theorem Hz.keep {w w' : World} {y n : Nat} {z : List (List Nat × Int)} (h : Hz w y n z) (hk : w'.heap[y]? = w.heap[y]?) (hs : w.heap.size ≤ w'.heap.size) : Hz w' y n z :=
  ⟨fun j x hx => ⟨(cell_heap hk).trans (h.told j x hx).1, (cell_heap hk).trans (h.told j x hx).2⟩, fun j hj => (h.some_ j hj).imp fun _ hv => (cell_heap hk).trans hv, fun j => (frozen_heap hk).trans (h.fr j), Nat.lt_of_lt_of_le h.lt hs⟩
theorem Hz.drew {w : World} {y n : Nat} {z : List (List Nat × Int)} (h : Hz w y n z) : Hz w.drew y n z := ⟨h.told, h.some_, h.fr, h.lt⟩
theorem Hz.put {w : World} {y n : Nat} {z : List (List Nat × Int)} (h : Hz w y n z) (hn : z.length < n) (b : List Nat) (x : Int) : Hz ((w.setCell ⟨y, z.length * 2, none⟩ (.string (str b))).setCell ⟨y, z.length * 2 + 1, none⟩ (.int .i64 x)) y n (z ++ [(b, x)]) := by
  obtain ⟨v0, hv0⟩ := h.some_ (z.length * 2) (by omega)
  obtain ⟨v1, hv1⟩ := h.some_ (z.length * 2 + 1) (by omega)
  have old : ∀ j v, j ≠ z.length * 2 → j ≠ z.length * 2 + 1 → w.cell? ⟨y, j, none⟩ = some v → ((w.setCell ⟨y, z.length * 2, none⟩ (.string (str b))).setCell ⟨y, z.length * 2 + 1, none⟩ (.int .i64 x)).cell? ⟨y, j, none⟩ = some v := fun j v h0 h1 hv =>
    (World.cell?_setCell_other _ _ _ _ (fun h => h1 (by injection h with _ h _; exact h.symm))).trans ((World.cell?_setCell_other _ _ _ _ (fun h => h0 (by injection h with _ h _; exact h.symm))).trans hv)
  have new0 : ((w.setCell ⟨y, z.length * 2, none⟩ (.string (str b))).setCell ⟨y, z.length * 2 + 1, none⟩ (.int .i64 x)).cell? ⟨y, z.length * 2, none⟩ = some (.string (str b)) :=
    (World.cell?_setCell_other _ _ _ _ (fun h => by injection h with _ h _; omega)).trans (World.cell?_setCell_same _ _ _ hv0)
  have new1 : ((w.setCell ⟨y, z.length * 2, none⟩ (.string (str b))).setCell ⟨y, z.length * 2 + 1, none⟩ (.int .i64 x)).cell? ⟨y, z.length * 2 + 1, none⟩ = some (.int .i64 x) :=
    World.cell?_setCell_same _ _ _ ((World.cell?_setCell_other _ _ _ _ (fun h => by injection h with _ h _; omega)).trans hv1)
  refine ⟨fun j u hu => ?_, fun j hj => ?_, fun j => by rw [World.frozen?_setCell, World.frozen?_setCell]; exact h.fr j, by simpa using h.lt⟩
  · by_cases e : j = z.length
    · subst e
      rw [List.getElem?_append_right (Nat.le_refl _), Nat.sub_self] at hu
      injection hu with hu
      rw [← hu]
      exact ⟨new0, new1⟩
    · have hj : j < z.length := by
        have := (List.getElem?_eq_some_iff.1 hu).1
        rw [List.length_append, List.length_singleton] at this
        omega
      rw [List.getElem?_append_left hj] at hu
      have h2 := h.told j u hu
      exact ⟨old _ _ (by omega) (by omega) h2.1, old _ _ (by omega) (by omega) h2.2⟩
  · by_cases e : j = z.length * 2
    · subst e; exact ⟨_, new0⟩
    · by_cases e1 : j = z.length * 2 + 1
      · subst e1; exact ⟨_, new1⟩
      · obtain ⟨v, hv⟩ := h.some_ j hj
        exact ⟨v, old j v e e1 hv⟩
theorem Hz.made (w : World) (e : TypeId) (n : Nat) (zs : Array Value) : Hz (w.alloc (.cells (madeCells zs (n * 2)) e)) w.heap.size n [] := by
  refine ⟨fun j x hx => by simp at hx, fun j hj => ?_, fun j => ?_, by simp⟩
  · rw [World.cell?_alloc_new]
    have : j < (madeCells zs (n * 2)).size := by rw [size_madeCells]; omega
    exact ⟨_, Array.getElem?_eq_getElem this⟩
  · unfold World.frozen?; rw [show (⟨w.heap.size, j, none⟩ : Addr).block = w.heap.size from rfl, heap_alloc_new w _]; simp
end Gw
namespace Go.Proofs.Ytabalhhodcajmaa
open Go.RowKit Go.Shelf Gw Pol
theorem rhead_info : (Try.prog.info? 38).map (fun i => (i.zero, i.size, i.bytes)) = some (some (.agg #[.string ByteArray.empty, .int .i64 0]), 2, 24) := by kernel_rfl
theorem run_heads (n : Nat) (hn : n ≤ 2147483645) (w : World) : (Instr.makeSlice 22 (.int .i64 (n : Int)) (.int .i64 (n : Int))).run Try.prog w = .ok (.slice (some ⟨w.heap.size, 0, none⟩) n n) (w.alloc (.cells (madeCells #[.string ByteArray.empty, .int .i64 0] (n * 2)) 38)) := by
  obtain ⟨i, hi, hzz⟩ := Option.map_eq_some_iff.1 rhead_info
  simp only [Prod.mk.injEq] at hzz
  obtain ⟨hz, hs, hb⟩ := hzz
  have hr := run_make (P := Try.prog) w 22 38 i _ Try.underlying22 hi hz .i64 .i64 n n (by omega) (Int.le_refl _) (by rw [hb]; omega) (by omega)
  simp only [Int.toNat_natCast, hs, Value.cells] at hr
  exact hr
/-- While a head is read. -/
def HwSt (base : Nat) (w : World) (p q g t y n : Nat) (zk : List (List Nat × Int)) (s : St) (wr : World) : Prop :=
  ∃ g' : Nat, (g' = g ∨ g' = p) ∧ Rds base wr p q g' t s ∧ Hz wr y n zk ∧ K2 w wr p q ∧ wr.heap.size = y + 1
/-- What heads has read behind some heads. -/
def LhRel (base : Nat) (w : World) (p q g t y n : Nat) (s1 : St) (i : Value) (wr : World) : Prop :=
  ∃ k g' : Nat, k ≤ n ∧ i = .int .i64 (k : Int) ∧ (g' = g ∨ g' = p) ∧ Rds base wr p q g' t (gH k s1).2 ∧ Hz wr y n (gH k s1).1 ∧ K2 w wr p q ∧ wr.heap.size = y + 1
section
variable {base : Nat} {w : World} {p q g t : Nat} {s : St}
set_option maxRecDepth 100000 in
set_option maxHeartbeats 1000000 in
theorem rheads_any (ht : t ≤ 140737488355328) (h : Rds base w p q g t s) : Calls Try.prog 27 #[.pointer (some ⟨q, 0, none⟩)] w fun e w' =>
    ∃ y n, e = .returned (.slice (some ⟨y, 0, none⟩) n n) ∧ n = (gHs t s).1.length ∧ Hz w' y n (gHs t s).1 ∧ w.heap.size ≤ y ∧ ∃ g', (g' = g ∨ g' = p) ∧ Rds base w' p q g' t (gHs t s).2 ∧ K2 w w' p q := by
  have h0 := h.c0
  have hne := h.ne
  have hqlt := cell_lt h0
  have hplt := h.bx.lt
  have hglt := h.bx.glt
  have HC := Lib.hid (rcount_any 6 (t / 6) (.inr rfl) rfl ht h)
  have hle := gC_le (t / 6) s h.bb
  have e1 : gHs t s = gH (gC (t / 6) s).1 (gC (t / 6) s).2 := rfl
  rw [e1]
  obtain ⟨n, hn⟩ : ∃ n, n = (gC (t / 6) s).1 := ⟨_, rfl⟩
  obtain ⟨s1, hs1⟩ : ∃ s1, s1 = (gC (t / 6) s).2 := ⟨_, rfl⟩
  rw [← hn, ← hs1] at HC ⊢
  rw [← hn] at hle
  clear e1 hn hs1 h
  have hmk := run_heads n hle
  go_enter Try.func27, Try.ntmps27
  go_wp2_with fail
  refine HC.out.mono ?_
  rintro e w1 ⟨rfl, g1, hg1, h1, hk1, hs1⟩
  obtain ⟨w2, hw2⟩ : ∃ w2, w2 = w1.alloc (.cells (madeCells #[.string ByteArray.empty, .int .i64 0] (n * 2)) 38) := ⟨_, rfl⟩
  have hI2 := Hz.made w1 38 n #[.string ByteArray.empty, .int .i64 0]
  have hB2 : Below w1.heap.size w1 w2 := by rw [hw2]; exact (Below.refl _ _).alloc (Nat.le_refl _) _
  have hz2 : w2.heap.size = w1.heap.size + 1 := by rw [hw2]; simp
  rw [← hw2] at hI2
  have h2 := h1.grown hB2
  have hk2 : K2 w w2 p q := hk1.trans (K2.ofBelow hB2 (Nat.le_refl _)) (.inl rfl)
  clear h1 hk1
  rw [hs1] at hI2 hz2
  go_wp2
  rw [← hw2]
  clear hmk hw2 hB2
  obtain ⟨y, hy⟩ : ∃ y, y = w.heap.size := ⟨_, rfl⟩
  rw [← hy] at hI2 hz2 hqlt hplt hglt ⊢
  have hyw : w.heap.size ≤ y := by omega
  clear hy hs1
  go_loopw [10] (LhRel base w p q g t y n s1) (fun i _ => n - (intOf i).toNat)
  case atStart => exact ⟨0, g1, Nat.zero_le _, rfl, hg1, h2, hI2, hk2, hz2⟩
  case round =>
    clear h2 hI2 hk2 hz2 hg1
    obtain ⟨k, g', hk, rfl, hg', hr, hI, hkw, hsz⟩ := hrel
    by_cases hkn : k < n
    · have hc0 := hr.c0
      have hsn := gH_snoc k s1
      have hlen := gH_len k s1
      obtain ⟨s0, hs0⟩ : ∃ s0, s0 = (gH k s1).2 := ⟨_, rfl⟩
      obtain ⟨zk, hzk⟩ : ∃ zk, zk = (gH k s1).1 := ⟨_, rfl⟩
      rw [← hs0, ← hzk] at hsn
      rw [← hzk] at hlen hI
      rw [← hs0] at hr
      obtain ⟨sa, hsa⟩ : ∃ sa, sa = (gL s0).2 := ⟨_, rfl⟩
      obtain ⟨S, hS⟩ : ∃ S, S = str (gL s0).1 := ⟨_, rfl⟩
      rw [← hsa] at hsn
      obtain ⟨x, hx⟩ : ∃ x, x = (gN sa).1 := ⟨_, rfl⟩
      obtain ⟨sb, hsb⟩ : ∃ sb, sb = (gN sa).2 := ⟨_, rfl⟩
      rw [← hx, ← hsb] at hsn
      have HSN := Lib.hid hsn
      have HLE := Lib.hid hlen
      have HS := Lib.hid hS
      have HS1 := Lib.hid hsa
      have HX := Lib.hid hx
      have HS2 := Lib.hid hsb
      have hrd : ∀ k w5, ([HwSt base w p q g t y n zk s0, HwSt base w p q g t y n zk sa, HwSt base w p q g t y n zk sb] : List (World → Prop)).getD k (fun _ => False) w5 → w5.cell? ⟨q, 0, none⟩ = some (.pointer (some ⟨p, 0, none⟩)) := fun k w5 hw => by
        match k, hw with
        | 0, hw => obtain ⟨_, _, h, _⟩ := hw; exact h.c0
        | 1, hw => obtain ⟨_, _, h, _⟩ := hw; exact h.c0
        | 2, hw => obtain ⟨_, _, h, _⟩ := hw; exact h.c0
        | k + 3, hw => exact hw.elim
      have HRD := Lib.hid hrd
      clear hs0 hzk hx hsb hsn hsa hS hrd hlen
      go_wp2
      refine Gt.regionV (fun _ _ => True) (fun k => ([HwSt base w p q g t y n zk s0, HwSt base w p q g t y n zk sa, HwSt base w p q g t y n zk sb] : List (World → Prop)).getD k (fun _ => False)) [Gt.Is (.slice (some ⟨y, 0, none⟩) n n), Gt.Is (.int .i64 (k : Int)), Gt.Is (.pointer (some ⟨q, 0, none⟩)), Gt.Is (.string S), Gt.Is (.pointer (some ⟨q, 0, none⟩)), Gt.Is (.pointer (some ⟨q, 0, none⟩)), Gt.Is (.pointer (some ⟨q, 0, none⟩)), Gt.Is (.pointer (some ⟨p, 0, none⟩)), Gt.Is (.int .i64 x), Gt.Is (.agg #[.string S, .int .i64 x])] [3, 8] [0, 0, 0, 0, 0, 0, 0, 0, 1, 2, 2, 2] [2, 2, 0, 0, 2, 2, 2, 1, 1, 2, 2, 2] 2 26 10
        [⟨[], [3], none⟩, ⟨[], [4], none⟩, ⟨[], [0], none⟩, ⟨[(2, 15)], [], none⟩, ⟨[], [0], none⟩, ⟨[(4, 17)], [], none⟩, ⟨[(5, 18)], [], none⟩, ⟨[(6, 19)], [], none⟩, ⟨[(7, 20)], [], none⟩, ⟨[(3, 16), (8, 21)], [], none⟩, ⟨[(0, 13), (1, 14)], [], none⟩, ⟨[(10, 23), (9, 22)], [], none⟩]
        [(0, 13), (1, 14), (2, 15), (3, 16), (4, 17), (5, 18), (6, 19), (7, 20), (8, 21), (9, 22)] (by kernel_rfl) (by kernel_rfl) rfl (by kernel_rfl) (by kernel_rfl) (by kernel_rfl) (by kernel_rfl) (by kernel_rfl) ?_ ?_ ?_ ?_
      · simp only [Gt.MonosR]
        repeat' apply And.intro
        all_goals (first | exact trivial | exact fun _ _ _ h _ => h)
      · show (HwSt base w p q g t y n zk s0) _
        exact ⟨g', hg', hr.drew, hI.drew, hkw.drew, hsz⟩
      · simp only [Gt.ObsV, List.take_succ_cons, List.take_zero]
        refine ⟨?_, ?_, ?_, ?_, ?_, ?_, ?_, ?_, ?_, ?_, trivial⟩
        all_goals (first
          | (refine ⟨fun _ k hlo hhi a w5 hw => ?_, fun h => absurd h (by decide)⟩)
          | (refine ⟨fun h => absurd h (by decide), fun _ y hy hlt a w5 hw => ?_⟩
             have hyj : Gt.at0 [3, 8] y = 3 := hy
             obtain rfl : y = 0 := (by decide : ∀ y, y < 2 → Gt.at0 [3, 8] y = 3 → y = 0) y hlt hyj
             have hw' : (HwSt base w p q g t y n zk s0) w5 := hw)
          | (refine ⟨fun h => absurd h (by decide), fun _ y hy hlt a w5 hw => ?_⟩
             have hyj : Gt.at0 [3, 8] y = 8 := hy
             obtain rfl : y = 1 := (by decide : ∀ y, y < 2 → Gt.at0 [3, 8] y = 8 → y = 1) y hlt hyj
             have hw' : (HwSt base w p q g t y n zk sa) w5 := hw))
        all_goals simp only [Gt.Pre, Gt.Kept, Gt.Guarded, Gt.tys, List.getD_cons_zero, List.getD_cons_succ, Gt.Is, Nat.zero_add, Nat.reduceAdd]
        · intros
          exact Gt.okv_move rfl hw trivial (by assumption)
        · intros
          exact Gt.okv_move rfl hw trivial (by assumption)
        · intros
          exact Gt.okv_move rfl hw trivial (by assumption)
        · intros
          obtain ⟨g5, hg5, hr5, hz5, hk5, hs5⟩ := hw'
          refine Gt.okt_call (f := 28) rfl #[.pointer (some ⟨q, 0, none⟩)] (by kernel_rfl) (by simp [*]) ((rtext_any hr5).mono ?_)
          rintro e w6 ⟨rfl, g6, hg6, hr6, hk6, hs6⟩
          exact ⟨_, rfl, ⟨⟨g6, by omega, by rw [← HS1.out] at hr6; exact hr6, hz5.keep (hk6.block y (by omega) (by omega) (by omega)) (by omega), hk5.both hk6, by omega⟩, trivial⟩, by rw [HS.out]; exact rfl⟩
        · intros
          exact Gt.okv_move rfl hw trivial (by assumption)
        intros
        refine Gt.okv_run ?_ hw trivial (by first | rfl | trivial)
        rotate_left
        intros
        refine Gt.okv_run ?_ hw trivial (by first | rfl | trivial)
        rotate_left
        intros
        have hcell := HRD.out k w5 hw
        refine Gt.okv_run ?_ hw trivial (by first | rfl | trivial)
        rotate_left
        · intros
          obtain ⟨g5, hg5, hr5, hz5, hk5, hs5⟩ := hw'
          refine Gt.okt_call (f := 26) rfl #[.pointer (some ⟨p, 0, none⟩)] (by kernel_rfl) (by simp [*]) ((Rds.num hr5).mono ?_)
          rintro e w6 ⟨rfl, g6, hg6, hr6, hk6, hs6⟩
          exact ⟨_, rfl, ⟨⟨g6, by omega, by rw [← HS2.out] at hr6; exact hr6, hz5.keep (hk6.block y (by omega) (by omega) (by omega)) (by omega), hk5.both hk6, by omega⟩, trivial⟩, by rw [HX.out]; exact rfl⟩
        · intros
          rename_i e16 e21
          have e16b : a.tmps[16]?.getD undef = .string S := by simpa [Act.eval] using e16
          have e21b : a.tmps[21]?.getD undef = .int .i64 x := by simpa [Act.eval] using e21
          refine Gt.okv_run (v := .agg #[.string S, .int .i64 x]) ?_ hw trivial rfl
          simp only [execOp]
          go_simp
        all_goals (
          simp only [execOp, *]
          go_simp
          done)
      · intro a w5 hw
        have hw' : (HwSt base w p q g t y n zk sb) w5 := hw
        simp only [Gt.Pre, Gt.tys, List.getD_cons_zero, List.getD_cons_succ, Gt.Is]
        intro h0 h1 h2 h3 h4 h5 h6 h7 h8 h9
        obtain ⟨g5, hg5, hr5, hz5, hk5, hs5⟩ := hw'
        simp only [Gt.puts, List.foldl_cons, List.foldl_nil, h0, h1, h2, h3, h4, h5, h6, h7, h8, h9]
        simp only [Act.put, List.setIfInBounds_toArray, List.set_cons_zero, List.set_cons_succ, List.drop_succ_cons, List.drop_zero]
        have hf0 := hz5.fr (k * 2)
        have hf1 := hz5.fr (k * 2 + 1)
        obtain ⟨v0, hv0⟩ := hz5.some_ (k * 2) (by omega)
        obtain ⟨v1, hv1⟩ := hz5.some_ (k * 2 + 1) (by omega)
        have hput := hz5.put (by rw [HLE.out]; exact hkn) (gL s0).1 x
        rw [HLE.out, ← HS.out] at hput
        have HP := Lib.hid hput
        have HK5 := Lib.hid (hk5.newset (o := k * 2) hyw (.string S))
        clear hput
        go_wp2
        go_roundw
        case rel =>
          refine ⟨k + 1, g5, by omega, by go_num, hg5, ?_, ?_, HK5.out.newset (o := k * 2 + 1) hyw _, by simpa using hs5⟩
          · rw [HSN.out]; exact (hr5.other (by omega) (by omega) (by omega) _).other (by omega) (by omega) (by omega) _
          · rw [HSN.out]; exact HP.out
        case measure => simp [intOf]; omega
    · obtain rfl : k = n := by omega
      go_wp2
      go_ret
      exact ⟨y, k, rfl, (gH_len k s1).symm, hI, hyw, g', hg', hr, hkw⟩
end
end Go.Proofs.Ytabalhhodcajmaa
