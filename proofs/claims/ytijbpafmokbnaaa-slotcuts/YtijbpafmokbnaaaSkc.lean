/- What the definition's Do does with a Save. -/
import Derived.Test.YtijbpafmokbnaaaSkb
namespace Go.Proofs.Ytijbpafmokbnaaa
open Go.RowKit Go.Shelf Gw Pol Go.BigFrame
/-- The definition's slot: k is the block of what is kept (or q, if there is none). -/
structure Rs (w : World) (q k B0 room : Nat) (s : Pw) (K : List Nat) : Prop where
  lt : q < B0
  klt : k < w.heap.size
  few : room ≤ 512
  len : tk K.length ≤ room
  fit : s.fit
  box : ∃ dirty A c, Rb w q (room : Int) s.Z s.u s.gone dirty (.slice A K.length c) ∧ Gw.Own w B0 5 A c K ∧ ((A = none ∧ k = q) ∨ A = some ⟨k, 0, none⟩)
theorem K2.mk2 {w w' : World} {p g : Nat} (h : K2 w w' p p) : K2 w w' p g := ⟨h.os, h.tape, h.output, h.size, fun j hj h1 _ => h.block j hj h1 h1⟩
theorem Rs.k2 {w w' : World} {q k B0 room : Nat} {s : Pw} {K : List Nat} (h : Rs w q k B0 room s K) {p g : Nat} (hk : K2 w w' p g) (h1 : q ≠ p) (h2 : q ≠ g) (h3 : k ≠ p) (h4 : k ≠ g) : Rs w' q k B0 room s K := by
  obtain ⟨dirty, A, c, hb, ho, hA⟩ := h.box
  refine ⟨h.lt, Nat.lt_of_lt_of_le h.klt hk.size, h.few, h.len, h.fit, dirty, A, c, (hk.block q hb.lt h1 h2).trans hb, ?_, hA⟩
  rcases hA with ⟨rfl, _⟩ | rfl
  · exact ho.k2 hk (fun _ e => by cases e) (fun _ e => by cases e)
  · exact ho.k2 hk (fun _ e => by injection e with e; injection e with e; exact h3 e) (fun _ e => by injection e with e; injection e with e; exact h4 e)
theorem Rs.below {w w' : World} {q k B0 room B : Nat} {s : Pw} {K : List Nat} (h : Rs w q k B0 room s K) (hb : Below B w w') (hB : w.heap.size ≤ B) : Rs w' q k B0 room s K := by
  obtain ⟨dirty, A, c, hbx, ho, hA⟩ := h.box
  refine ⟨h.lt, Nat.lt_of_lt_of_le h.klt hb.size, h.few, h.len, h.fit, dirty, A, c, (hb.block q (by have := hbx.lt; omega)).trans hbx, ho.k2 (K2.ofBelow (p := w.heap.size) (g := w.heap.size) hb hB) (fun o e => ?_) (fun o e => ?_), hA⟩
  all_goals (
    rcases hA with ⟨rfl, _⟩ | rfl
    · cases e
    · injection e with e
      injection e with e
      have := h.klt
      omega)
theorem Rs.drewN {w : World} {q k B0 room : Nat} {s : Pw} {K : List Nat} (h : Rs w q k B0 room s K) (a : Nat) : Rs (w.drewN a) q k B0 room s K := by
  obtain ⟨dirty, A, c, hb, ho, hA⟩ := h.box
  exact ⟨h.lt, h.klt, h.few, h.len, h.fit, dirty, A, c, hb, ho.drewN a, hA⟩
theorem Rs.inn {w : World} {q k B0 room : Nat} {s : Pw} {K : List Nat} (h : Rs w q k B0 room s K) : ∃ dirty A c, Rb w q (room : Int) s.Z s.u s.gone dirty (.slice A K.length c) ∧ In w w.heap.size A c K := by
  obtain ⟨dirty, A, c, hb, ho, _⟩ := h.box
  exact ⟨dirty, A, c, hb, ho.inn⟩
theorem rwrite_l (q : Nat) (room : Int) (s s2 : Pw) (hs : s2 = s.one) (b : Bool) (hb : b = s.can) (dirty : Bool) (v : Value) (w : World) (h : Rb w q room s.Z s.u s.gone dirty v) (hf : s.fit) (hu : s.u < 4611686018427387904) :
    Calls Try.prog 25 #[.pointer (some ⟨q, 0, none⟩)] w fun e w' => e = .returned (.bool b) ∧ Rb w' q room s2.Z s2.u s2.gone dirty v ∧ K2 w w' q q := by
  subst hs hb
  exact rwrite_any q room s dirty v w h hf hu
/-- What a Save makes of it. -/
def FsP (w : World) (q k B0 room : Nat) (s : Pw) (K b : List Nat) (e : Ending) (w' : World) : Prop :=
  (Pw.ok (tk b.length + 1) s = false ∧ e = .returned (.int .i64 3) ∧ Rs w' q k B0 room (Pw.go (tk b.length + 1) s) K ∧ K2 w w' q k) ∨
  (Pw.ok (tk b.length + 1) s = true ∧ e = .returned (.int .i64 (bif Pw.ok (tk K.length) (Pw.go (tk b.length + 1) s) then 0 else 3)) ∧ ∃ k', (k' = q ∨ w.heap.size ≤ k') ∧ Rs w' q k' B0 room (Pw.go (tk K.length) (Pw.go (tk b.length + 1) s)) b ∧ K2 w w' q k)
/-- While the new is written. -/
def F1 (W : World) (q : Nat) (room : Int) (s : Pw) (t : Nat) (v : Value) (v5 : Value) (wr : World) : Prop := ∃ (i : Nat) (si : Pw) (dirty : Bool), v5 = .int .i64 (i : Int) ∧ i ≤ t ∧ Pw.ok i s = true ∧ si = Pw.go i s ∧ Rb wr q room si.Z si.u si.gone dirty v ∧ K2 W wr q q
/-- While it is asked what the old was. -/
def F2 (W : World) (q : Nat) (room : Int) (s : Pw) (t : Nat) (v : Value) (v7 : Value) (wr : World) : Prop := ∃ (i : Nat) (dirty : Bool), v7 = .int .i64 (i : Int) ∧ i ≤ t ∧ Rb wr q room s.Z s.u s.gone dirty v ∧ K2 W wr q q
theorem In.k2 {w w' : World} {q B c : Nat} {A : Option Addr} {l : List Nat} (h : In w B A c l) (hk : K2 w w' q q) (hA : ∀ o, l ≠ [] → A ≠ some ⟨q, o, none⟩) : In w' B A c l :=
  ⟨fun i x hx => by
    obtain ⟨h1, b, off, h2, h3, h4⟩ := h.sl i x hx
    have hne : l ≠ [] := fun e => by rw [e] at hx; cases hx
    exact ⟨h1, b, off, h2, h3, (cell_heap (hk.block b (cell_lt h4) (fun e => hA off hne (by rw [h2, e])) (fun e => hA off hne (by rw [h2, e])))).trans h4⟩, h.cap, h.none_⟩
end Go.Proofs.Ytijbpafmokbnaaa
