/- A row of bools as an argument: opened. -/
import Derived.Test.YtpkdlblncgldmaaLawb
import Derived.Test.YtpkdlblncgldmaaByt
import Derived.Deep.Grids
namespace Gw
open Go Go.RowKit Go.Shelf Go.ChangeShapes Go.WideShapes Go.ChangeAt
/-- A row of bools that is read. -/
structure InB (w : World) (B : Nat) (A : Option Addr) (c : Nat) (z : List Bool) : Prop where
  sl : ∀ (i : Nat) (x : Bool), z[i]? = some x → ∃ b off, A = some ⟨b, off, none⟩ ∧ b < B ∧ w.cell? ⟨b, off + i, none⟩ = some (.bool x)
  cap : z.length ≤ c
  none_ : A = none → c = 0
theorem InB.below {w w' : World} {B : Nat} {A : Option Addr} {c : Nat} {z : List Bool} (h : InB w B A c z) (hb : Below B w w') : InB w' B A c z := ⟨fun i x hx => by
  obtain ⟨b, off, h1, h2, h3⟩ := h.sl i x hx
  exact ⟨b, off, h1, h2, (hb.cell (p := ⟨b, off + i, none⟩) h2).trans h3⟩, h.cap, h.none_⟩
theorem InB.more {w : World} {B B' : Nat} {A : Option Addr} {c : Nat} {z : List Bool} (h : InB w B A c z) (hB : B ≤ B') : InB w B' A c z := ⟨fun i x hx => by
  obtain ⟨b, off, h1, h2, h3⟩ := h.sl i x hx
  exact ⟨b, off, h1, by omega, h3⟩, h.cap, h.none_⟩
theorem open_boolz {H : Type} {enc : TypeId × Value → H} {P : Program} {W : World} {t e : TypeId} {r : Reach} {base : Nat} {v : Value} {d : DataW H} {p : List MemPlace}
    (ht : P.underlying t = some (.slice e)) (he : P.underlying e = some .bool) (hc : P.cellsOf e = 1) (hok : Value.okWide P W r base t v) (h : DataW.Trod enc P W 0 (fun _ => true) true t v d p) :
    ∃ A c z, v = .slice A z.length c ∧ InB W W.heap.size A c z ∧ ((d = .nil ∧ c = 0) ∨ ∃ el sp, d = .slice el sp ∧ el.length + sp.length = c) := by
  obtain ⟨A, len, cap, rfl⟩ := okWide_slice ht hok
  obtain ⟨fuel, hf⟩ := h
  rcases Go.Deep.open_bools ht he hc hf with ⟨hcs, hx⟩ | ⟨a, len', cap', Bf, hcs, _, hl, hm, hx, hcell⟩
  · simp [Value.cells] at hcs
    obtain ⟨rfl, rfl, rfl⟩ := hcs
    injection hx with hx _
    exact ⟨none, 0, [], rfl, ⟨fun i x h => by simp at h, Nat.le_refl _, fun _ => rfl⟩, .inl ⟨hx, rfl⟩⟩
  · simp [Value.cells] at hcs
    obtain ⟨rfl, rfl, rfl⟩ := hcs
    injection hx with hx _
    have hll : ((List.range len).map Bf).length = len := by simp
    refine ⟨some a, cap, (List.range len).map Bf, by rw [hll], ⟨?_, by omega, fun h => by cases h⟩, .inr ⟨_, _, hx, ?_⟩⟩
    · intro i x hi
      have hil : i < len := by have := (List.getElem?_eq_some_iff.1 hi).1; simpa using this
      have hix : Bf i = x := by simpa [hil] using hi
      have hc0 := hcell i (by omega)
      rw [hix] at hc0
      obtain ⟨b, off, spot⟩ := a
      have hsp : spot = none := by
        have h0 := World.cell?_spot (hcell 0 (by omega))
        simpa [Addr.add] using h0
      subst hsp
      rw [addr_add] at hc0
      exact ⟨b, off, rfl, cell_lt hc0, hc0⟩
    · simp; omega
end Gw
