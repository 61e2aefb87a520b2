/- Columns in memory of their own. -/
import Derived.Test.YtnpjncbdmgdjnaaGrw
import Derived.Test.YtnpjncbdmgdjnaaSpm
namespace Gw
open Go Go.RowKit Go.Shelf
/-- What a call has made: R rows of n bytes, l i; nothing of it was there before. -/
structure Cs (w w' : World) (A : Option Addr) (c R n : Nat) (pa : Nat → Option Addr) (cp : Nat → Nat) (l : Nat → List Nat) : Prop where
  min : MIn w' w'.heap.size A c R pa cp l
  bel : Below w.heap.size w w'
  spine : ∀ g o, A = some ⟨g, o, none⟩ → 0 < R → w.heap.size ≤ g
  rows : ∀ i, i < R → ∀ b o, pa i = some ⟨b, o, none⟩ → w.heap.size ≤ b ∧ (∀ g o', A = some ⟨g, o', none⟩ → b ≠ g) ∧ ∀ j, j < n → w'.frozen? ⟨b, o + j, none⟩ = false
end Gw
