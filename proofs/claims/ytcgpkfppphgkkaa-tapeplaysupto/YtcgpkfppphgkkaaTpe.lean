/- A row of one's own that is turned, and tapes beside it. -/
import Derived.Test.YtcgpkfppphgkkaaTpd
import Derived.Test.YtcgpkfppphgkkaaSlx
namespace Go.Proofs.Ytcgpkfppphgkkaa
open Go.RowKit Go.Shelf Gw Pol
/-- The block that a slice lies in. -/
def rb : Option Addr → Option Nat
  | some a => some a.block
  | none => none
theorem own_hi {w : World} {base k : Nat} {e : TypeId} {A : Option Addr} {c : Nat} {l : List Nat} (h : Gw.Own w base e A c l) (hk : w.heap.size ≤ k) : ∀ o, A ≠ some ⟨k, o, none⟩ := by
  rintro o rfl
  have := h.1.lt k rfl
  omega
theorem rb_ne {w : World} {base k : Nat} {e : TypeId} {A : Option Addr} {c : Nat} {l : List Nat} (h : Gw.Own w base e A c l) (hk : ∀ o, A ≠ some ⟨k, o, none⟩) : some k ≠ rb A := by
  rcases h.1.2 with ⟨hv, _⟩ | ⟨g, cap, cur, hv, _⟩
  · injection hv with hA; subst hA; intro h0; cases h0
  · injection hv with hA; subst hA
    intro h0
    injection h0 with h0
    have h1 : k = g := h0
    subst h1
    exact hk 0 rfl
theorem tp_grown {w w' : World} {p g u : Nat} {l : List Nat} {r : Option Nat} (h : Tp w p g l u) (hg : w.grownBy w' r) (h1 : some p ≠ r) (h2 : some g ≠ r) : Tp w' p g l u :=
  h.keep (hg.block p h.lt h1) (hg.block g h.glt h2) hg.size
theorem below_grown {w w' : World} {B : Nat} {r : Option Nat} (hg : w.grownBy w' r) (hB : B ≤ w.heap.size) (hr : ∀ k, r = some k → B ≤ k) : Below B w w' :=
  ⟨hg.os, hg.tape, hg.output, hg.size, fun k hk => hg.block k (by omega) (fun e => by have := hr k e.symm; omega)⟩
theorem rb_lo {w : World} {base : Nat} {e : TypeId} {A : Option Addr} {c : Nat} {l : List Nat} (h : Gw.Own w base e A c l) : ∀ k, rb A = some k → base ≤ k := by
  rcases h.1.2 with ⟨hv, _⟩ | ⟨g, cap, cur, hv, hb, _⟩
  · injection hv with hA; subst hA; intro k h0; cases h0
  · injection hv with hA; subst hA
    intro k h0
    injection h0 with h0
    have h1 : g = k := h0
    omega
end Go.Proofs.Ytcgpkfppphgkkaa
