/- New, told by what it lays; bytes as a string. -/
import Derived.Test.YtabalhhodcajmaaWdb
import Derived.Test.YtabalhhodcajmaaWdc
namespace Go.Proofs.Ytabalhhodcajmaa
open Go.RowKit Go.Shelf Gw Pol
/-- New. -/
theorem wnew' (w : World) : Calls Try.prog 13 #[] w fun e w1 => e = .returned (.pointer (some ⟨w.heap.size, 0, none⟩)) ∧ Bx w1 w.heap.size w.heap.size [] false ∧ Below w.heap.size w w1 ∧ w.heap.size < w1.heap.size := by
  refine (wnew_any w).mono ?_
  rintro e w1 ⟨rfl, rfl⟩
  exact ⟨rfl, Bx.new w _, (Below.refl _ _).alloc (Nat.le_refl _) _, by simp⟩
theorem conv_n {w : World} {B : Nat} {A : Option Addr} {c n : Nat} {l : List Nat} (h : Sl w B A l) (hn : n = l.length) : (convert 25 9 (.slice A n c)).run Try.prog w = .ok (.string (str l)) w := by
  subst hn; exact conv_sl (P := Try.prog) h Try.underlying25 Try.underlying5 Try.underlying9 c
/-- A row that was there lies in no newer block. -/
theorem own_far {w : World} {base k : Nat} {e : TypeId} {A : Option Addr} {c : Nat} {l : List Nat} (h : Gw.Own w base e A c l) (hk : w.heap.size ≤ k) : ∀ o, A ≠ some ⟨k, o, none⟩ := by
  rintro o rfl
  have := h.1.lt k rfl
  omega
end Go.Proofs.Ytabalhhodcajmaa
