/- Are some blocks of a slot's disk all noughts? -/
import Derived.Test.YtijbpafmokbnaaaSkr
namespace Go.Proofs.Ytijbpafmokbnaaa
open Go.RowKit Go.Shelf Gw Pol Gq Go.BigFrame
attribute [local go_sem] Oper.semAt_some
/-- A block laid anew. -/
theorem blk_new (w : World) (b : List Nat) : w.grownBy ((w.alloc (.cells (bys z32).toArray 58)).setRow w.heap.size (bys b).toArray) none ∧ Bk ((w.alloc (.cells (bys z32).toArray 58)).setRow w.heap.size (bys b).toArray) w.heap.size 58 b := by
  have hn : (w.alloc (.cells (bys z32).toArray 58)).heap[w.heap.size]? = some (.cells (bys z32).toArray 58 (0, 0)) := heap_alloc_new w _
  have hbl : Below w.heap.size w ((w.alloc (.cells (bys z32).toArray 58)).setRow w.heap.size (bys b).toArray) := below_setRow ((Below.refl _ w).alloc (Nat.le_refl _) _) (Nat.le_refl _) _
  exact ⟨⟨hbl.os, hbl.tape, hbl.output, hbl.size, fun k hk _ => hbl.block k hk⟩, setRow_heap _ _ _ _ _ _ hn⟩
theorem grown_below {w w' : World} (h : w.grownBy w' none) : Below w.heap.size w w' := ⟨h.os, h.tape, h.output, h.size, fun k hk => h.block k hk (by simp)⟩
theorem load_plain {P : Program} (t : TypeId) (ha : ∀ w, (isAgg t).run P w = .ok false w) {w : World} {b : Nat} {v : Value} (h : w.cell? ⟨b, 0, none⟩ = some v) : (loadVar t ⟨b, 0, none⟩).run P w = .ok v w := by
  simp [loadVar, Sem.run_bind, Result.andThen, ha, h]
theorem bk_turned {A B : World} {b : Nat} {t : TypeId} {l : List Nat} {row : Option Nat} (h : Bk A b t l) (hg : A.grownBy B row) (hr : ∀ r, row = some r → ∃ o : Obj, A.heap[r]? = some o ∧ o.isCells = false) : Bk B b t l :=
  h.keep (hg.block b h.lt (fun e => by
    obtain ⟨o, h1, h2⟩ := hr b e.symm
    have h3 : A.heap[b]? = _ := h
    rw [h3] at h1
    injection h1 with h1
    subst h1
    cases h2))
theorem blk_size {b : List Nat} (hb : b.length = 32) : (Try.prog.info? 58).map (·.size) = some (bys b).toArray.size ∧ (bys z32).toArray.size = (bys b).toArray.size ∧ (Try.prog.info? 58).map (·.size) = some (bys b).length := by
  refine ⟨?_, ?_, ?_⟩
  · rw [List.size_toArray, bys_len, hb]; exact blk_info
  · rw [List.size_toArray, List.size_toArray, bys_len, bys_len, hb]; rfl
  · rw [bys_len, hb]; exact blk_info
/-- Between two rounds. -/
def EmI (w : World) (a p g r : Nat) (L : List Nat) (s : Pw) (_ : List (Nat × List Nat)) (W : World) : Prop :=
  Sz W a p g r L s ∧ Below w.heap.size w W ∧ W.heap[w.heap.size]? = some (.cells #[.bool false] 4 (0, 0))
theorem EmI.own (w : World) (a p g r : Nat) (L : List Nat) (s : Pw) (B : Nat) (hB : w.heap.size < B) (hl : a < B ∧ p < B ∧ g < B) : OwnFrom B (EmI w a p g r L s) := by
  rintro x A D row ⟨h1, h2, h3⟩ hg hr
  refine ⟨h1.grown hg (fun k e => by have := (hr k e).1; omega), ⟨hg.os.trans h2.os, hg.tape.trans h2.tape, hg.output.trans h2.output, Nat.le_trans h2.size hg.size, fun k hk => (hg.block k (Nat.lt_of_lt_of_le hk h2.size) (fun e => by have := (hr k e.symm).1; omega)).trans (h2.block k hk)⟩, ?_⟩
  exact (hg.block _ (Array.getElem?_eq_some_iff.1 h3).1 (fun e => by have := (hr _ e.symm).1; omega)).trans h3
set_option maxRecDepth 100000 in
set_option maxHeartbeats 2000000 in
theorem zempty_in (a p g r f c : Nat) (L : List Nat) (s : Pw) (w : World) (h : Sz w a p g r L s) (hfc : f + c ≤ 1 + 2 * r) (hz : ∀ i, i < c → piece L (f + i) = z32) :
    CallsIn Fence.wide 6 Try.prog 39 #[.pointer (some ⟨a, 0, none⟩), .int .i64 (f : Int), .int .i64 (c : Int)] w fun e w' => e = .returned (.bool true) ∧ Below w.heap.size w w' := by
  have hlt := h.lt
  obtain ⟨W4, hW4⟩ : ∃ W4, W4 = (((w.alloc (.cells #[.bool false] 4)).alloc (.cells #[.pointer (some ⟨a, 0, none⟩)] 23)).alloc (.cells #[.int .i64 (f : Int)] 3)).alloc (.cells #[.int .i64 (c : Int)] 3) := ⟨_, rfl⟩
  have hs4 : W4.heap.size = w.heap.size + 4 := by rw [hW4]; simp
  have hb4 : Below w.heap.size w W4 := by rw [hW4]; exact ((((Below.refl _ w).alloc (Nat.le_refl _) _).alloc (by simp) _).alloc (by simp; omega) _).alloc (by simp; omega) _
  have d0 : W4.heap[w.heap.size]? = some (.cells #[.bool false] 4 (0, 0)) := by
    rw [hW4]
    rw [Below.heap_alloc _ _ _ (by simp; omega), Below.heap_alloc _ _ _ (by simp; omega), Below.heap_alloc _ _ _ (by simp)]
    exact heap_alloc_new w _
  have d1 : W4.cell? ⟨w.heap.size + 1, 0, none⟩ = some (.pointer (some ⟨a, 0, none⟩)) := by rw [hW4]; exact zocell (zocell (zncell _ _ _ _ (by simp)) _) _
  have d2 : W4.cell? ⟨w.heap.size + 2, 0, none⟩ = some (.int .i64 (f : Int)) := by rw [hW4]; exact zocell (zncell _ _ _ _ (by simp)) _
  have d3 : W4.cell? ⟨w.heap.size + 3, 0, none⟩ = some (.int .i64 (c : Int)) := by rw [hW4]; exact zncell _ _ _ _ (by simp)
  have hS4 : Sz W4 a p g r L s := h.below hb4 (Nat.le_refl _)
  have hzz := zero_blk
  refine callsIn_of_wp_marks Try.func39 rfl trivial ?_ rfl
  simp only [Try.ntmps39, List.size_toArray, List.length_cons, List.length_nil, Nat.reduceAdd, Nat.reduceSub, Array.replicate_succ, Array.replicate_zero, List.push_toArray, List.append_toArray, List.nil_append, List.cons_append]
  gi_wp2_with fail
  refine ⟨trivial, ?_⟩
  refine (callsIn_wide.2 (zblocks_mk a f c _)).mono ?_
  rintro e w' ⟨rfl, rfl⟩
  gi_wp2
  rw [← hW4]
  simp only [Nat.add_assoc, Nat.reduceAdd]
  refine Gq.range_memR (by omega) (gf := 42) (lb := #[.pointer (some ⟨w.heap.size + 2, 0, none⟩), .pointer (some ⟨w.heap.size + 3, 0, none⟩), .pointer (some ⟨w.heap.size + 1, 0, none⟩)]) rfl (enters_of Try.func42 (by kernel_rfl) rfl)
    (zblocks_seq (6 - 1) (by omega) (w.heap.size + 1) a p g r f c L s W4 hS4 hfc d1 d2 d3)
    (fun h k => KpB.trans h k) (fun W l o o' hl _ _ => KpB.put (by omega)) (fun _ => rfl) (ZRd.own a p g r f c _ (by omega))
    (EmI w a p g r L s) (fun _ _ _ => False) (EmI.own w a p g r L s _ (by omega) (by omega)) (fun _ => fun _ _ _ _ h _ _ => h)
    ⟨hS4, hb4, d0⟩
    (fun x a' W => ∃ b, a' = { tmps := #[.pointer (some ⟨a, 0, none⟩), .int .i64 (f : Int), .int .i64 (c : Int), undef, undef, undef, .pointer (some ⟨w.heap.size, 0, none⟩), undef, .pointer (some ⟨b, 0, none⟩), .pointer (some ⟨a, 0, none⟩), .int .i64 (f : Int), .int .i64 (c : Int), .func (.func 42) #[] #[.pointer (some ⟨w.heap.size + 2, 0, none⟩), .pointer (some ⟨w.heap.size + 3, 0, none⟩), .pointer (some ⟨w.heap.size + 1, 0, none⟩)], .int .i64 (x.1 : Int), .agg (bys x.2).toArray, undef, undef, undef], defers := [] } ∧ Bk W b 58 x.2)
    (fun x a' _ A D row ⟨b, h1, h2⟩ hg hr => ⟨b, h1, bk_turned h2 hg (fun r e => (hr r e).2)⟩) ?assign ?body ?done ?stop
  case assign =>
    rintro l pre x W K hWs hi hrd hK
    have h32 := hrd.2.2.1
    clear hrd hi
    obtain ⟨n1, n2⟩ := blk_new W x.2
    obtain ⟨z1, z2, _⟩ := blk_size h32
    have HNW := Lib.hid (heap_alloc_new W (.cells (bys z32).toArray 58))
    have HKK := Lib.hid (hK _ _ n1 (KpB.below (grown_below n1) (Nat.le_refl _) (by omega)) ⟨_, rfl, n2⟩)
    have HZ1 := Lib.hid z1
    have HZ2 := Lib.hid z2
    clear hK n1 n2 z1 z2
    gi_wp2_with (first | (refine wpListIn_store_row rfl 58 (.tmp 8) (.tmp 14) rfl _ (bys x.2).toArray rfl rfl _ _ HNW.out HZ1.out HZ2.out (bysK_one _) ?_) | fail)
    exact HKK.out
  case body =>
    rintro lb pre ⟨n, bb⟩ a' W ⟨hS, hB, hd0⟩ ⟨hx1, hpc, h32, L', s', hS', hx2⟩ ⟨b, rfl, hbk⟩
    obtain rfl : L = L' := hS.one hS'
    have hx1 : n = f + pre.length := hx1
    have hx2 : bb = piece L n := hx2
    rw [hx1, hz _ hpc] at hx2
    subst hx2
    have hrng := hbk.range 0 32
    rw [List.drop_zero, List.take_of_length_le (show (z32 : List Nat).length ≤ 32 by decide)] at hrng
    have HRNG := Lib.hid hrng
    have HLN := Lib.hid (blk_size (b := z32) rfl).2.2
    have HI := Lib.hid (show EmI w a p g r L s (pre ++ [(n, z32)]) W from ⟨hS, hB, hd0⟩)
    have heq := fun W => blocks_eq z32 z32 rfl rfl W
    rw [decide_eq_true rfl] at heq
    clear hrng hbk hS hS' hB hd0 hS4 d0 d1 d2 d3 hb4 h hx1 hpc
    gi_wp2_with (first | (refine wpListIn_load_mid rfl 58 (.tmp 8) rfl b 0 rfl (bys z32) _ HRNG.out Try.underlying58 rfl HLN.out ?_) | fail)
    exact ⟨KeepsOthers.refl _, ⟨Nat.le_refl _, fun _ _ => rfl, fun L s h => ⟨L, s, h⟩⟩, HI.out⟩
  case done =>
    rintro D pre W hD hS ⟨hS5, hB, hd0⟩ hK
    have c0 : W.cell? ⟨w.heap.size, 0, none⟩ = some (.bool false) := by rw [cell_of_row W _ 0 _ _ (0, 0) hd0]; rfl
    have f0 : W.frozen? ⟨w.heap.size, 0, none⟩ = false := frozen_of hd0
    clear hS4 d0 d1 d2 d3 hb4 h hS5 hS
    gi_wp2
    have hK3 : (W.setCell ⟨w.heap.size, 0, none⟩ (.bool true)).heap[D]? = some (.deferred (some [])) := (heap_set_other W _ _ _ _ (by omega)).trans hK
    refine ⟨by simp, .inl ⟨_, _, rfl, run_takeDeferred hK3, ?_⟩⟩
    have hb5 : Below w.heap.size w ((W.setCell ⟨w.heap.size, 0, none⟩ (.bool true)).putObj D (.deferred none)) :=
      (hB.setCell (p := ⟨w.heap.size, 0, none⟩) (Nat.le_refl _) _).trans (belowK_b (w := w) (Nat.le_refl _) _ D _ _ (by omega) hK3 rfl rfl)
    refine ⟨_, results_cell1 rfl _ _ rfl (load_plain 4 (fun w => by kernel_rfl) (v := .bool true) ?_), rfl, hb5⟩
    rw [World.cell?_of_block (w := W.setCell ⟨w.heap.size, 0, none⟩ (.bool true)) (a := ⟨w.heap.size, 0, none⟩) (World.putObj_heap_other (by show w.heap.size ≠ D; omega))]
    exact World.cell?_setCell_same W ⟨w.heap.size, 0, none⟩ _ c0
  case stop =>
    rintro D cd pre W hD h
    exact h.elim
theorem zempty_any (a p g r f c : Nat) (L : List Nat) (s : Pw) (w : World) (h : Sz w a p g r L s) (hfc : f + c ≤ 1 + 2 * r) (hz : ∀ i, i < c → piece L (f + i) = z32) :
    Calls Try.prog 39 #[.pointer (some ⟨a, 0, none⟩), .int .i64 (f : Int), .int .i64 (c : Int)] w fun e w' => e = .returned (.bool true) ∧ Below w.heap.size w w' :=
  callsIn_wide.1 (zempty_in a p g r f c L s w h hfc hz)
end Go.Proofs.Ytijbpafmokbnaaa
