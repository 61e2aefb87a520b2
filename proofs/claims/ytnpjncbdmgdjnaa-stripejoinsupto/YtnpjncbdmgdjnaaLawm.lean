/- How an argument that is a slice of slices of bytes is opened: rows that are read, and no more of them than the form's own reach. -/
import Derived.Deep.Matrix
import Derived.Test.YtnpjncbdmgdjnaaLawb
import Derived.Test.YtnpjncbdmgdjnaaMat
namespace Gw
open Go Go.RowKit Go.Shelf Go.ChangeShapes Go.WideShapes Go.ChangeAt Go.Deep

theorem in_of_ints {W : World} {A : Option Addr} {L C : Nat} {Z : List Int} (hLC : L ≤ C) (hZ : Z.length = C) (hwf : ∀ n ∈ Z, (Lit.int .u8 n).wf = true) (hnone : A = none → C = 0)
    (hcell : ∀ a', A = some a' → ∀ c, c < C → W.cell? (a'.add c) = some (.int .u8 (Z.getD c 0))) : In W W.heap.size A C ((Z.take L).map Int.toNat) ∧ ((Z.take L).map Int.toNat).length = L := by
  have hll : ((Z.take L).map Int.toNat).length = L := by simp; omega
  refine ⟨⟨fun i x hi => ?_, by omega, hnone⟩, hll⟩
  have hil : i < L := by rw [← hll]; exact (List.getElem?_eq_some_iff.1 hi).1
  have hiz : i < Z.length := by omega
  have hx2 : x = (Z[i]).toNat := by
    rw [List.getElem?_map, List.getElem?_take, if_pos (by omega), List.getElem?_eq_getElem hiz] at hi
    simpa using hi.symm
  have hw := bounds_u8 (hwf _ (List.getElem_mem hiz))
  cases A with
  | none => have := hnone rfl; omega
  | some a =>
    have hc0 := hcell a rfl i (by omega)
    have hg : Z.getD i 0 = Z[i] := by simp [List.getD, hiz]
    rw [hg] at hc0
    have hci : ((Z[i]).toNat : Int) = Z[i] := by omega
    obtain ⟨b, off, spot⟩ := a
    have hsp : spot = none := by
      have h0 := World.cell?_spot (hcell _ rfl 0 (by omega))
      simpa [Addr.add] using h0
    subst hsp
    rw [addr_add] at hc0
    exact ⟨by omega, b, off, rfl, cell_lt hc0, by rw [hx2, hci]; exact hc0⟩
theorem open_rows {H : Type} {enc : TypeId × Value → H} {P : Program} {W : World} {t e q : TypeId} {r : Reach} {base : Nat} {v : Value} {d : DataW H} {p : List MemPlace}
    (ht : P.underlying t = some (.slice e)) (he : P.underlying e = some (.slice q)) (hq : P.underlying q = some (.int .u8)) (ce : P.cellsOf e = 1) (cq : P.cellsOf q = 1) (hok : Value.okWide P W r base t v) (h : DataW.Trod enc P W 0 (fun _ => true) true t v d p) :
    ∃ A c R A' c' l, v = .slice A R c ∧ MIn W W.heap.size A c R A' c' l ∧ (∀ i, Pol.BB (l i)) ∧ ((d = .nil ∧ c = 0) ∨ ∃ el sp, d = .slice el sp ∧ el.length + sp.length = c) ∧
      ((d = .nil ∧ R = 0) ∨ ∃ (D : Nat → DataW H) (sp : List (DataW H)), d = .slice ((List.range R).map D) sp ∧ ∀ i, i < R → (D i = .nil ∧ l i = []) ∨ ∃ el sp, D i = .slice el sp ∧ el.length = (l i).length) := by
  obtain ⟨A, len, cap, rfl⟩ := okWide_slice ht hok
  obtain ⟨fuel, hf⟩ := h
  rcases open_int_rows ht he hq ce cq hf with ⟨hcs, hx⟩ | ⟨a, len', cap', A', L, C, Z, hcs, _, hl, hm, hx, hrow⟩
  · simp [Value.cells] at hcs
    obtain ⟨rfl, rfl, rfl⟩ := hcs
    injection hx with hx _
    exact ⟨none, 0, 0, fun _ => none, fun _ => 0, fun _ => [], rfl, ⟨fun i hi => by omega, Nat.le_refl _, fun _ => rfl⟩, fun _ => Pol.BB.nil, .inl ⟨hx, rfl⟩, .inl ⟨hx, rfl⟩⟩
  · simp [Value.cells] at hcs
    obtain ⟨rfl, rfl, rfl⟩ := hcs
    injection hx with hx _
    have hI : ∀ i, i < cap → In W W.heap.size (A' i) (C i) (((Z i).take (L i)).map Int.toNat) ∧ (((Z i).take (L i)).map Int.toNat).length = L i := fun i hi => by
      obtain ⟨_, h1, _, h3, h4, h5, h6⟩ := hrow i hi
      exact in_of_ints h1 h3 h4 h5 (fun a' ha c hc => (h6 a' ha).2 c hc)
    refine ⟨some a, cap, len, A', C, fun i => if i < len then ((Z i).take (L i)).map Int.toNat else [], rfl, ⟨fun i hi => ?_, hl, fun h => by cases h⟩, fun i => ?_, .inr ⟨_, _, hx, by simp; omega⟩, .inr ⟨_, _, hx, fun i hi => ?_⟩⟩
    · obtain ⟨h0, _⟩ := hrow i (by omega)
      obtain ⟨h1, h2⟩ := hI i (by omega)
      simp only [if_pos hi]
      obtain ⟨b, off, spot⟩ := a
      have hsp : spot = none := by
        have h0 := World.cell?_spot (hrow 0 (by omega)).1
        simpa [Addr.add] using h0
      subst hsp
      rw [addr_add] at h0
      exact ⟨b, off, rfl, cell_lt h0, by rw [h2]; exact h0, h1⟩
    · by_cases hi : i < len
      · simp only [if_pos hi]; exact (hI i (by omega)).1.bb
      · simp only [if_neg hi]; exact Pol.BB.nil
    · simp only [if_pos hi]
      obtain ⟨_, h1, _, h3, _, h5, _⟩ := hrow i (by omega)
      cases hA : A' i with
      | none =>
        have h0 := h5 hA
        have h6 : L i = 0 := by omega
        exact .inl ⟨by simp [intRow], by rw [h6]; simp⟩
      | some a' => exact .inr ⟨_, _, by simp only [intRow]; rfl, by simp [lits]⟩
theorem sized_rows {H : Type} {P : Program} {ts : List TypeId} {ds : List (DataW H)} (h : (DataW.weightsEach P ts ds).all (· ≤ reachBytes) = true) {j : Nat} {t e : TypeId} {d : DataW H} {c : Nat} (ht : ts[j]? = some t) (hd : ds[j]? = some d)
    (hu : P.underlying t = some (.slice e)) (hb : P.bytesOf e = 24) (hc : (d = .nil ∧ c = 0) ∨ ∃ el sp, d = .slice el sp ∧ el.length + sp.length = c) : c ≤ 5864062014634 := by
  rcases hc with ⟨_, rfl⟩ | ⟨el, sp, rfl, rfl⟩
  · omega
  · have := sized_slice h ht hd hu
    rw [hb] at this
    simp only [reachBytes] at this
    omega
end Gw
