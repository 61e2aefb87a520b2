/- A slot's box over its disk; what stands but three blocks. -/
import Derived.Test.YtijbpafmokbnaaaSkf
import Derived.Test.YtijbpafmokbnaaaSkg
namespace Gw
open Go Go.RowKit Go.Shelf Pol
/-- All that was there stands, blocks a, p and g aside. -/
structure K3 (w w' : World) (a p g : Nat) : Prop where
  os : w'.os = w.os
  tape : w'.tape = w.tape
  output : w'.output = w.output
  size : w.heap.size ≤ w'.heap.size
  block : ∀ k, k < w.heap.size → k ≠ a → k ≠ p → k ≠ g → w'.heap[k]? = w.heap[k]?
section
variable {w w' w2 : World} {a p g : Nat}
theorem K3.refl (w : World) (a p g : Nat) : K3 w w a p g := ⟨rfl, rfl, rfl, Nat.le_refl _, fun _ _ _ _ _ => rfl⟩
theorem K3.ofBelow {B : Nat} (h : Below B w w') (hB : w.heap.size ≤ B) : K3 w w' a p g := ⟨h.os, h.tape, h.output, h.size, fun k hk _ _ _ => h.block k (by omega)⟩
theorem K3.of2 (h : K2 w w' p g) : K3 w w' a p g := ⟨h.os, h.tape, h.output, h.size, fun k hk _ h1 h2 => h.block k hk h1 h2⟩
theorem K3.sm (h : K3 w w' a p g) (h2 : K3 w' w2 a p g) : K3 w w2 a p g :=
  ⟨h2.os.trans h.os, h2.tape.trans h.tape, h2.output.trans h.output, Nat.le_trans h.size h2.size, fun k hk h3 h4 h5 => (h2.block k (Nat.lt_of_lt_of_le hk h.size) h3 h4 h5).trans (h.block k hk h3 h4 h5)⟩
theorem K3.below {B : Nat} (h : K3 w w' a p g) (hB : B ≤ w.heap.size) (h1 : B ≤ a) (h2 : B ≤ p) (h3 : B ≤ g) : Below B w w' :=
  ⟨h.os, h.tape, h.output, h.size, fun k hk => h.block k (by omega) (by omega) (by omega) (by omega)⟩
end
end Gw
