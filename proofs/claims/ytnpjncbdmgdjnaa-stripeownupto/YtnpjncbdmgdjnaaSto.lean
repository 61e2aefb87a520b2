/- Columns of one's own that are turned, and others beside them. -/
import Derived.Test.YtnpjncbdmgdjnaaSti
namespace Gw
open Go Go.RowKit Go.Shelf
/-- Others stand where these are turned. -/
theorem Cs.kt {w w' wr : World} {A : Option Addr} {c R n lo hi : Nat} {pa : Nat → Option Addr} {cp : Nat → Nat} {l : Nat → List Nat} (h : Cs w w' A c R n pa cp l) (hk : Kt lo hi w' wr) (hh : hi ≤ w.heap.size) : MIn wr wr.heap.size A c R pa cp l := by
  refine ⟨fun i hi' => ?_, h.min.cap, h.min.none_⟩
  obtain ⟨b, off, h1, h2, h3, h4⟩ := h.min.rd i hi'
  have hb := h.spine b off h1 (by omega)
  refine ⟨b, off, h1, Nat.lt_of_lt_of_le h2 hk.size, hk.cell h3 (by omega), ⟨fun j x hx => ?_, h4.cap, h4.none_⟩⟩
  obtain ⟨g1, b', o', g2, g3, g4⟩ := h4.sl j x hx
  have hb' := (h.rows i hi' b' o' g2).1
  exact ⟨g1, b', o', g2, Nat.lt_of_lt_of_le g3 hk.size, hk.cell g4 (by omega)⟩
/-- Columns made between w1 and w2, as they are turned from w3 on. -/
structure Spo (w1 w2 w3 wr : World) (A : Option Addr) (R k : Nat) (pa : Nat → Option Addr) (cp : Nat → Nat) : Prop where
  kt : Kt w1.heap.size w2.heap.size w3 wr
  sp : ∀ i, i < R → ∃ g o, A = some ⟨g, o, none⟩ ∧ g < wr.heap.size ∧ wr.cell? ⟨g, o + i, none⟩ = some (.slice (pa i) k (cp i))
  rw : ∀ i, i < R → ∀ j, j < k → ∃ b o x : Nat, pa i = some ⟨b, o, none⟩ ∧ w1.heap.size ≤ b ∧ b < w2.heap.size ∧ b < wr.heap.size ∧ (∀ g o', A = some ⟨g, o', none⟩ → b ≠ g) ∧ x < 256 ∧ wr.cell? ⟨b, o + j, none⟩ = some (.int .u8 (x : Int)) ∧ wr.frozen? ⟨b, o + j, none⟩ = false
theorem Spo.start {w1 w2 w3 : World} {A : Option Addr} {c R k : Nat} {pa : Nat → Option Addr} {cp : Nat → Nat} {l : Nat → List Nat} (h : Cs w1 w2 A c R k pa cp l) (hl : ∀ i, i < R → (l i).length = k) (hb : Below w2.heap.size w2 w3) : Spo w1 w2 w3 w3 A R k pa cp := by
  refine ⟨Kt.refl _ _ _, fun i hi => ?_, fun i hi j hj => ?_⟩
  · obtain ⟨b, off, h1, h2, h3, _⟩ := h.min.rd i hi
    exact ⟨b, off, h1, Nat.lt_of_lt_of_le h2 hb.size, by rw [← hl i hi]; exact (hb.cell (p := ⟨b, off + i, none⟩) h2).trans h3⟩
  · obtain ⟨b, off, h1, h2, h3, h4⟩ := h.min.rd i hi
    obtain ⟨x, b', o', hx, hxb, g2, g3, g4⟩ := h4.sl.at_ (k := j) (by rw [hl i hi]; exact hj)
    obtain ⟨r1, r2, r3⟩ := h.rows i hi b' o' g2
    exact ⟨b', o', x, g2, r1, g3, Nat.lt_of_lt_of_le g3 hb.size, r2, hxb, (hb.cell (p := ⟨b', o' + j, none⟩) g3).trans g4, (World.frozen?_of_block (w := w2) (a := ⟨b', o' + j, none⟩) (hb.block b' g3)).trans (r3 j hj)⟩
theorem Spo.below {w1 w2 w3 wr w' : World} {A : Option Addr} {R k : Nat} {pa : Nat → Option Addr} {cp : Nat → Nat} (h : Spo w1 w2 w3 wr A R k pa cp) (hb : Below wr.heap.size wr w') : Spo w1 w2 w3 w' A R k pa cp := by
  refine ⟨h.kt.trans (Kt.ofBelow hb), fun i hi => ?_, fun i hi j hj => ?_⟩
  · obtain ⟨g, o, h1, h2, h3⟩ := h.sp i hi
    exact ⟨g, o, h1, Nat.lt_of_lt_of_le h2 hb.size, (hb.cell (p := ⟨g, o + i, none⟩) h2).trans h3⟩
  · obtain ⟨b, o, x, h1, h2, h3, h4, h5, h6, h7, h8⟩ := h.rw i hi j hj
    exact ⟨b, o, x, h1, h2, h3, Nat.lt_of_lt_of_le h4 hb.size, h5, h6, (hb.cell (p := ⟨b, o + j, none⟩) h4).trans h7, (World.frozen?_of_block (w := wr) (a := ⟨b, o + j, none⟩) (hb.block b h4)).trans h8⟩
theorem Spo.put {w1 w2 w3 wr : World} {A : Option Addr} {R k : Nat} {pa : Nat → Option Addr} {cp : Nat → Nat} (h : Spo w1 w2 w3 wr A R k pa cp) {b p y : Nat} (h1 : w1.heap.size ≤ b) (h2 : b < w2.heap.size) (hg : ∀ g o', A = some ⟨g, o', none⟩ → b ≠ g) (hy : y < 256) {v : Value} (hc : wr.cell? ⟨b, p, none⟩ = some v) :
    Spo w1 w2 w3 (wr.setCell ⟨b, p, none⟩ (.int .u8 (y : Int))) A R k pa cp := by
  refine ⟨h.kt.set (p := ⟨b, p, none⟩) ⟨h1, h2⟩ _, fun i hi => ?_, fun i hi j hj => ?_⟩
  · obtain ⟨g, o, e1, e2, e3⟩ := h.sp i hi
    refine ⟨g, o, e1, by rw [World.size_setCell]; exact e2, ?_⟩
    rw [World.cell?_setCell_other _ _ _ _ (fun e => hg g o e1 (by injection e))]
    exact e3
  · obtain ⟨b', o, x, e1, e2, e3, e4, e5, e6, e7, e8⟩ := h.rw i hi j hj
    by_cases he : (⟨b, p, none⟩ : Addr) = ⟨b', o + j, none⟩
    · refine ⟨b', o, y, e1, e2, e3, by rw [World.size_setCell]; exact e4, e5, hy, ?_, by rw [World.frozen?_setCell]; exact e8⟩
      rw [← he]; exact World.cell?_setCell_same _ _ _ hc
    · refine ⟨b', o, x, e1, e2, e3, by rw [World.size_setCell]; exact e4, e5, e6, ?_, by rw [World.frozen?_setCell]; exact e8⟩
      rw [World.cell?_setCell_other _ _ _ _ he]; exact e7
theorem MIn.first {w : World} {B : Nat} {A : Option Addr} {c R h : Nat} {pa : Nat → Option Addr} {cp : Nat → Nat} {l : Nat → List Nat} (hM : MIn w B A c R pa cp l) (hh : h ≤ R) : MIn w B A c h pa cp l :=
  ⟨fun i hi => hM.rd i (by omega), by have := hM.cap; omega, hM.none_⟩
end Gw
