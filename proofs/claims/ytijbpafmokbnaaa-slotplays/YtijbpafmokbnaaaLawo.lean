/- How an argument that is a slice of pairs (an int, a slice of bytes) is opened. -/
import Derived.Deep.SlicePairs
import Derived.Test.YtijbpafmokbnaaaLawb
import Derived.Test.YtijbpafmokbnaaaByt
namespace Gw
open Go Go.RowKit Go.Shelf Go.ChangeShapes Go.WideShapes Go.ChangeAt Go.Deep

/-- Pairs that are read. -/
structure OpsIn (w : World) (B : Nat) (A : Option Addr) (c R : Nat) (N : Nat → Int) (Q : Nat → Option Addr) (C : Nat → Nat) (l : Nat → List Nat) : Prop where
  at_ : ∀ i, i < R → ∃ b off, A = some ⟨b, off, none⟩ ∧ b < B ∧ w.cell? ⟨b, off + i * 2, none⟩ = some (.int .i64 (N i)) ∧ w.cell? ⟨b, off + i * 2 + 1, none⟩ = some (.slice (Q i) (l i).length (C i)) ∧ In w B (Q i) (C i) (l i) ∧ (Lit.int .i64 (N i)).wf = true
  cap : R ≤ c
  none_ : A = none → c = 0
theorem OpsIn.below {w w' : World} {B : Nat} {A : Option Addr} {c R : Nat} {N : Nat → Int} {Q : Nat → Option Addr} {C : Nat → Nat} {l : Nat → List Nat} (h : OpsIn w B A c R N Q C l) (hb : Below B w w') : OpsIn w' B A c R N Q C l :=
  ⟨fun i hi => by
    obtain ⟨b, off, h1, h2, h3, h4, h5, h6⟩ := h.at_ i hi
    exact ⟨b, off, h1, h2, (hb.cell h2).trans h3, (hb.cell h2).trans h4, h5.below hb, h6⟩, h.cap, h.none_⟩
/-- How a slice of bytes reads, cell by cell. -/
theorem bytes_at {H : Type} {enc : TypeId × Value → H} {P : Program} {W : World} {t e : TypeId} {n : Nat} {v : Value} {x : DataW H × List MemPlace}
    (ht : P.underlying t = some (.slice e)) (he : P.underlying e = some (.int .u8)) (hc : P.cellsOf e = 1) (h : DataW.trod enc P W 0 (fun _ => true) true n t [v] = some x) :
    ∃ y : Option Addr × Nat × List Nat, v = .slice y.1 y.2.2.length y.2.1 ∧ In W W.heap.size y.1 y.2.1 y.2.2 ∧ ((x.1 = .nil ∧ y.2.2 = []) ∨ ∃ el sp, x.1 = .slice el sp ∧ el.length = y.2.2.length) := by
  rcases open_ints ht he hc h with ⟨hcs, hx⟩ | ⟨a, len, cap, zs, hcs, _, hl, hm, hz, hx, hcell, hwz⟩
  · simp at hcs
    subst hcs hx
    exact ⟨(none, 0, []), rfl, ⟨Sl.nil, Nat.le_refl _, fun _ => rfl⟩, .inl ⟨rfl, rfl⟩⟩
  · simp at hcs
    subst hcs
    simp only [if_true] at hz
    subst hx
    have hll : ((zs.take len).map Int.toNat).length = len := by simp; omega
    refine ⟨(some a, cap, (zs.take len).map Int.toNat), by simp only [hll], ⟨?_, by simp only [hll]; exact hl, fun h => by cases h⟩, .inr ⟨_, _, rfl, by simp [lits]⟩⟩
    intro i y hi
    have hil : i < len := by rw [← hll]; exact (List.getElem?_eq_some_iff.1 hi).1
    have hiz : i < zs.length := by omega
    have hx2 : y = (zs[i]).toNat := by
      simp only [List.getElem?_map, List.getElem?_take] at hi
      rw [if_pos hil, List.getElem?_eq_getElem hiz] at hi
      simpa using hi.symm
    have hw := bounds_u8 (hwz _ (List.getElem_mem hiz))
    have hc0 := hcell i hiz
    have hg : zs.getD i 0 = zs[i] := by simp [List.getD, hiz]
    rw [hg] at hc0
    have hci : ((zs[i]).toNat : Int) = zs[i] := by omega
    obtain ⟨b, off, spot⟩ := a
    have hsp : spot = none := by
      have h0 := World.cell?_spot (hcell 0 (by omega))
      simpa [Addr.add] using h0
    subst hsp
    rw [addr_add] at hc0
    exact ⟨by omega, b, off, rfl, cell_lt hc0, by rw [hx2, hci]; exact hc0⟩
theorem open_ops {H : Type} {enc : TypeId × Value → H} {P : Program} {W : World} {t e q : TypeId} {f0 f1 : Field} {r : Reach} {base : Nat} {v : Value} {d : DataW H} {p : List MemPlace}
    (ht : P.underlying t = some (.slice e)) (he : P.underlying e = some (.struct #[f0, f1])) (ce : P.cellsOf e = 2) (o0 : f0.offset = 0) (o1 : f1.offset = 1) (c0 : P.cellsOf f0.type = 1) (c1 : P.cellsOf f1.type = 1)
    (t0 : P.underlying f0.type = some (.int .i64)) (t1 : P.underlying f1.type = some (.slice q)) (hq : P.underlying q = some (.int .u8)) (cq : P.cellsOf q = 1) (hok : Value.okWide P W r base t v) (h : DataW.Trod enc P W 0 (fun _ => true) true t v d p) :
    ∃ A c R N Q C l, v = .slice A R c ∧ OpsIn W W.heap.size A c R N Q C l ∧ ((d = .nil ∧ R = 0) ∨ ∃ (D0 D1 : Nat → DataW H) (sp : List (DataW H)), d = .slice ((List.range R).map fun i => .agg [D0 i, D1 i]) sp ∧
      ∀ i, i < R → (D1 i = .nil ∧ l i = []) ∨ ∃ el sp, D1 i = .slice el sp ∧ el.length = (l i).length) := by
  obtain ⟨A, len, cap, rfl⟩ := okWide_slice ht hok
  obtain ⟨fuel, hf⟩ := h
  rcases open_slice_pairs ht he ce o0 o1 c0 c1 hf with ⟨hcs, hx⟩ | ⟨a, len', cap', m, n, V0, V1, D0, D1, P0, P1, hcs, _, hl, hm, hmm, hx, hrow⟩
  · simp [Value.cells] at hcs
    obtain ⟨rfl, rfl, rfl⟩ := hcs
    injection hx with hx _
    exact ⟨none, 0, 0, fun _ => 0, fun _ => none, fun _ => 0, fun _ => [], rfl, ⟨fun i hi => by omega, Nat.le_refl _, fun _ => rfl⟩, .inl ⟨hx, rfl⟩⟩
  · simp [Value.cells] at hcs
    obtain ⟨rfl, rfl, rfl⟩ := hcs
    injection hx with hx _
    simp only [if_true] at hmm
    subst hmm
    have each : ∀ i, i < m → ∃ y : Int × Option Addr × Nat × List Nat, V0 i = .int .i64 y.1 ∧ (Lit.int .i64 y.1).wf = true ∧ V1 i = .slice y.2.1 y.2.2.2.length y.2.2.1 ∧ In W W.heap.size y.2.1 y.2.2.1 y.2.2.2 ∧ ((D1 i = .nil ∧ y.2.2.2 = []) ∨ ∃ el sp, D1 i = .slice el sp ∧ el.length = y.2.2.2.length) := fun i hi => by
      obtain ⟨_, _, g0, g1⟩ := hrow i hi
      obtain ⟨z, hz1, _, hz3⟩ := DataW.trod_int t0 g0
      simp at hz1
      obtain ⟨y, h1, h2, h3⟩ := bytes_at t1 hq cq g1
      exact ⟨(z, y.1, y.2.1, y.2.2), hz1, hz3, h1, h2, h3⟩
    obtain ⟨y, hy⟩ := choose_lt each
    refine ⟨some a, m, len, fun i => (y i).1, fun i => (y i).2.1, fun i => (y i).2.2.1, fun i => (y i).2.2.2, rfl, ⟨fun i hi => ?_, hl, fun h => by cases h⟩, .inr ⟨D0, D1, _, hx, fun i hi => (hy i (by omega)).2.2.2.2⟩⟩
    obtain ⟨h1, h2, h3, h4, _⟩ := hy i (by omega)
    obtain ⟨g0, g1, _, _⟩ := hrow i (by omega)
    obtain ⟨b, off, spot⟩ := a
    have hsp : spot = none := by
      have h0 := World.cell?_spot (hrow 0 (by omega)).1
      simpa [Addr.add] using h0
    subst hsp
    rw [addr_add] at g0 g1
    exact ⟨b, off, rfl, cell_lt g0, by rw [← h1]; exact g0, by rw [← h3]; exact g1, h4, h2⟩
end Gw
