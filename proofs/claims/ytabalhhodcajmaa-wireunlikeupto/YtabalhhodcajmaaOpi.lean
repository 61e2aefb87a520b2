/- A slice of one byte; a row onto which something was appended, and where it lies. -/
import Derived.Test.YtabalhhodcajmaaGty
import Derived.Test.YtabalhhodcajmaaOtb
import Derived.Test.YtabalhhodcajmaaProg
namespace Go.Proofs.Ytabalhhodcajmaa
open Go.RowKit Go.Shelf Gw Pol
/-- A slice of one byte in a new block. -/
def OneIs (B y : Nat) : Value → World → Prop := fun v w => ∃ b, v = .slice (some ⟨b, 0, none⟩) 1 1 ∧ B ≤ b ∧ (World.cell? w ⟨b, 0, none⟩) = some (.int .u8 (y : Int))
theorem OneIs.mono (B y : Nat) : Gt.Mono (OneIs B y) := by
  rintro v w w' ⟨b, h1, h2, h3⟩ hg
  exact ⟨b, h1, h2, (Below.cell hg (p := ⟨b, 0, none⟩) (cell_lt h3)).trans h3⟩
theorem OneIs.by {B y : Nat} {v : Value} {w w' : World} {row : Option Nat} (h : OneIs B y v w) (hg : w.grownBy w' row) (hr : ∀ k, row = some k → k < B) : OneIs B y v w' := by
  obtain ⟨b, h1, h2, h3⟩ := h
  exact ⟨b, h1, h2, (World.cell?_of_block (w := w) (a := ⟨b, 0, none⟩) (hg.block b (cell_lt h3) (fun e => by have := hr b e.symm; omega))).trans h3⟩
theorem OneIs.sl {B y : Nat} {v : Value} {w : World} (h : OneIs B y v w) (hy : y < 256) : ∃ b, v = .slice (some ⟨b, 0, none⟩) 1 1 ∧ Sl w w.heap.size (some ⟨b, 0, none⟩) [y] := by
  obtain ⟨b, h1, h2, h3⟩ := h
  refine ⟨b, h1, fun i x hx => ?_⟩
  match i, hx with
  | 0, hx => simp at hx; subst hx; exact ⟨hy, b, 0, rfl, cell_lt h3, h3⟩
/-- What was appended: the row, and where it lies. -/
def ApIs (base B n : Nat) (A : Option Addr) (l : List Nat) : Value → World → Prop := fun v w => ∃ A2 c2, v = .slice A2 n c2 ∧ Gw.Own w base 5 A2 c2 l ∧ ∀ b o, A2 = some ⟨b, o, none⟩ → B ≤ b ∨ ∃ o', A = some ⟨b, o', none⟩
theorem ApIs.mono (base B n : Nat) (A : Option Addr) (l : List Nat) : Gt.Mono (ApIs base B n A l) := by
  rintro v w w' ⟨A2, c2, h1, h2, h3⟩ hg
  exact ⟨A2, c2, h1, h2.kept hg, h3⟩

end Go.Proofs.Ytabalhhodcajmaa
