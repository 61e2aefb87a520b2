/- A row of ints as an argument: opened. -/
import Derived.Test.YtabalhhodcajmaaLawb
namespace Gw
open Go Go.RowKit Go.Shelf Go.ChangeShapes Go.WideShapes Go.ChangeAt
/-- A row of ints that is read. -/
structure InZ (w : World) (B : Nat) (A : Option Addr) (c : Nat) (z : List Int) : Prop where
  sl : ∀ (i : Nat) (x : Int), z[i]? = some x → (Lit.int .i64 x).wf = true ∧ ∃ b off, A = some ⟨b, off, none⟩ ∧ b < B ∧ w.cell? ⟨b, off + i, none⟩ = some (.int .i64 x)
  cap : z.length ≤ c
  none_ : A = none → c = 0
theorem InZ.below {w w' : World} {B : Nat} {A : Option Addr} {c : Nat} {z : List Int} (h : InZ w B A c z) (hb : Below B w w') : InZ w' B A c z := ⟨fun i x hx => by
  obtain ⟨h0, b, off, h1, h2, h3⟩ := h.sl i x hx
  exact ⟨h0, b, off, h1, h2, (hb.cell (p := ⟨b, off + i, none⟩) h2).trans h3⟩, h.cap, h.none_⟩
theorem InZ.more {w : World} {B B' : Nat} {A : Option Addr} {c : Nat} {z : List Int} (h : InZ w B A c z) (hB : B ≤ B') : InZ w B' A c z := ⟨fun i x hx => by
  obtain ⟨h0, b, off, h1, h2, h3⟩ := h.sl i x hx
  exact ⟨h0, b, off, h1, by omega, h3⟩, h.cap, h.none_⟩
theorem open_intz {H : Type} {enc : TypeId × Value → H} {P : Program} {W : World} {t e : TypeId} {r : Reach} {base : Nat} {v : Value} {d : DataW H} {p : List MemPlace}
    (ht : P.underlying t = some (.slice e)) (he : P.underlying e = some (.int .i64)) (hc : P.cellsOf e = 1) (hok : Value.okWide P W r base t v) (h : DataW.Trod enc P W 0 (fun _ => true) true t v d p) :
    ∃ A c z, v = .slice A z.length c ∧ InZ W W.heap.size A c z ∧ ((d = .nil ∧ c = 0) ∨ ∃ el sp, d = .slice el sp ∧ el.length + sp.length = c) := by
  obtain ⟨A, len, cap, rfl⟩ := okWide_slice ht hok
  obtain ⟨fuel, hf⟩ := h
  rcases open_ints ht he hc hf with ⟨hcs, hx⟩ | ⟨a, len', cap', zs, hcs, _, hl, hm, hz, hx, hcell, hwz⟩
  · simp [Value.cells] at hcs
    obtain ⟨rfl, rfl, rfl⟩ := hcs
    injection hx with hx _
    exact ⟨none, 0, [], rfl, ⟨fun i x h => by simp at h, Nat.le_refl _, fun _ => rfl⟩, .inl ⟨hx, rfl⟩⟩
  · simp [Value.cells] at hcs
    obtain ⟨rfl, rfl, rfl⟩ := hcs
    simp only [if_true] at hz
    injection hx with hx _
    have hll : (zs.take len).length = len := by rw [List.length_take]; omega
    refine ⟨some a, cap, zs.take len, by rw [hll], ⟨?_, by omega, fun h => by cases h⟩, .inr ⟨_, _, hx, ?_⟩⟩
    · intro i x hi
      have hil : i < (zs.take len).length := (List.getElem?_eq_some_iff.1 hi).1
      have hiz : i < zs.length := by omega
      rw [List.getElem?_take, if_pos (by omega), List.getElem?_eq_getElem hiz] at hi
      injection hi with hi
      have hc0 := hcell i hiz
      have hg : zs.getD i 0 = zs[i] := by simp [List.getD, hiz]
      rw [hg, hi] at hc0
      obtain ⟨b, off, spot⟩ := a
      have hsp : spot = none := by
        have h0 := World.cell?_spot (hcell 0 (by omega))
        simpa [Addr.add] using h0
      subst hsp
      have hadd : (⟨b, off, none⟩ : Addr).add i = ⟨b, off + i, none⟩ := by
        unfold Addr.add; split
        · rename_i h0; subst h0; rfl
        · rfl
      rw [hadd] at hc0
      refine ⟨hwz x (by rw [← hi]; exact List.getElem_mem hiz), b, off, rfl, ?_, hc0⟩
      have : W.heap[b]? ≠ none := fun hn => by
        unfold World.cell? at hc0
        simp [hn] at hc0
      rcases Nat.lt_or_ge b W.heap.size with h1 | h1
      · exact h1
      · exact absurd (Array.getElem?_eq_none h1) this
    · simp [lits]; omega
theorem sized_ints {H : Type} {P : Program} {ts : List TypeId} {ds : List (DataW H)} (h : (DataW.weightsEach P ts ds).all (· ≤ reachBytes) = true) {j : Nat} {t e : TypeId} {d : DataW H} {c : Nat} (ht : ts[j]? = some t) (hd : ds[j]? = some d)
    (hu : P.underlying t = some (.slice e)) (hb : P.bytesOf e = 8) (hc : (d = .nil ∧ c = 0) ∨ ∃ el sp, d = .slice el sp ∧ el.length + sp.length = c) : c ≤ 17592186043904 := by
  rcases hc with ⟨_, rfl⟩ | ⟨el, sp, rfl, rfl⟩
  · omega
  · have := sized_slice h ht hd hu
    rw [hb] at this
    have h8 : reachBytes = 140737488351232 := rfl
    omega
end Gw
