/- Rows of any lengths that a call appends one by one to rows of its own. -/
import Derived.Test.YtabalhhodcajmaaGrw
namespace Gw
open Go Go.RowKit Go.Shelf
/-- The values of k rows. -/
def rvl (pa : Nat → Option Addr) (cp : Nat → Nat) (l : Nat → List Nat) (k : Nat) : List Value := (List.range k).map fun i => Value.slice (pa i) (l i).length (cp i)
theorem rvl_len (pa : Nat → Option Addr) (cp : Nat → Nat) (l : Nat → List Nat) (k : Nat) : (rvl pa cp l k).length = k := by simp [rvl]
/-- k rows have been appended: v holds them; row i lies at pa i. -/
structure GrowL (w wr : World) (te tb : TypeId) (v : Value) (k : Nat) (pa : Nat → Option Addr) (cp : Nat → Nat) (l : Nat → List Nat) : Prop where
  own : wr.ownsRow w.heap.size te 1 v k (rvl pa cp l k)
  row : ∀ i, i < k → Own wr w.heap.size tb (pa i) (cp i) (l i)
  dis : ∀ i j, i < k → j < k → i ≠ j → ∀ b o o', pa i = some ⟨b, o, none⟩ → pa j ≠ some ⟨b, o', none⟩
  bel : Below w.heap.size w wr
theorem GrowL.step {w wr w2 w3 : World} {te tb : TypeId} {v v' : Value} {k : Nat} {pa : Nat → Option Addr} {cp : Nat → Nat} {l : Nat → List Nat} (h : GrowL w wr te tb v k pa cp l) (hne : te ≠ tb)
    {A2 : Option Addr} {c2 : Nat} (hb : Below wr.heap.size wr w2) (ho : Own w2 wr.heap.size tb A2 c2 (l k)) (o : Obj) (hown : w3.ownsRow w.heap.size te 1 v' (k + 1) (rvl pa cp l k ++ [.slice A2 (l k).length c2])) (hg : (w2.alloc o).grownBy w3 v.ownBlock) :
    GrowL w w3 te tb v' (k + 1) (fun i => if i = k then A2 else pa i) (fun i => if i = k then c2 else cp i) l := by
  have hs := h.bel.size
  have hs2 := hb.size
  have hown2 : w2.ownsRow w.heap.size te 1 v k (rvl pa cp l k) := by
    refine h.own.kept (row := none) ⟨hb.os, hb.tape, hb.output, hb.size, fun i hi _ => hb.block i hi⟩ ?_
    rcases h.own.2 with ⟨hv, _⟩ | ⟨g, cap, cur, hv, _⟩
    · subst hv; exact .inl rfl
    · subst hv; exact .inr (by simp [Value.ownBlock])
  have hvb : ∀ b, v.ownBlock = some b → w.heap.size ≤ b := fun b hb => (h.own.lt b hb).1
  have hkeep : ∀ {A : Option Addr} {c : Nat} {x : List Nat} {base : Nat}, base ≤ w2.heap.size → w.heap.size ≤ base → Own w2 base tb A c x → Own w3 base tb A c x := fun {A c x base} hb1 hb2 hO => by
    have hO1 := hO.alloc o
    refine ⟨hO1.1.kept hg ?_, hO.2⟩
    cases A with
    | none => exact .inl rfl
    | some a =>
      obtain ⟨b, of, sp⟩ := a
      rcases hO.1.2 with ⟨hv, _⟩ | ⟨g2, cap, cur, hv, _⟩
      · injection hv with h1; cases h1
      · injection hv with h1
        injection h1 with h1
        injection h1 with h2 h3 h4
        subst h2 h3 h4
        refine .inr fun e => tag_ne hown2 (hO.base hb2) hne ?_
        simp [Value.ownBlock] at e
        exact e.symm
  refine ⟨?_, fun i hi => ?_, fun i j hi hj hij b o o' e1 e2 => ?_, ?_⟩
  · have e : rvl pa cp l k ++ [.slice A2 (l k).length c2] = rvl (fun i => if i = k then A2 else pa i) (fun i => if i = k then c2 else cp i) l (k + 1) := by
      unfold rvl
      rw [List.range_succ, List.map_append]
      congr 1
      · refine List.map_congr_left fun i hi => ?_
        have := List.mem_range.1 hi
        simp only [if_neg (show i ≠ k by omega)]
      · simp
    rw [e] at hown
    exact hown
  · by_cases e : i = k
    · subst e
      simp only [if_true]
      exact (hkeep hs2 hs ho).base hs
    · simp only [if_neg e]
      exact hkeep (by omega) (Nat.le_refl _) ((h.row i (by omega)).kept hb)
  · by_cases e3 : i = k
    · subst e3
      have e4 : j ≠ i := fun e => hij e.symm
      simp only [if_true] at e1
      simp only [if_neg e4] at e2
      subst e1
      have h1 := (ho.1.lt b rfl).1
      have h2 := h.row j (by omega)
      rw [e2] at h2
      have := (h2.1.lt b rfl).2
      omega
    · simp only [if_neg e3] at e1
      have h1 := h.row i (by omega)
      rw [e1] at h1
      have h1 := (h1.1.lt b rfl).2
      by_cases e4 : j = k
      · subst e4
        simp only [if_true] at e2
        subst e2
        have := (ho.1.lt b rfl).1
        omega
      · simp only [if_neg e4] at e2
        exact h.dis i j (by omega) (by omega) hij b o o' e1 e2
  · refine (h.bel.trans (hb.mono hs)).trans ?_
    exact ((Below.refl w.heap.size w2).alloc (by omega) o).grown hg (by simp; omega) (fun b hb => hvb b hb)
theorem GrowL.own2 {w wr w2 : World} {te tb : TypeId} {v : Value} {k : Nat} {pa : Nat → Option Addr} {cp : Nat → Nat} {l : Nat → List Nat} (h : GrowL w wr te tb v k pa cp l) (hb : Below wr.heap.size wr w2) : w2.ownsRow w.heap.size te 1 v k (rvl pa cp l k) := by
  refine h.own.kept (row := none) ⟨hb.os, hb.tape, hb.output, hb.size, fun i hi _ => hb.block i hi⟩ ?_
  rcases h.own.2 with ⟨hv, _⟩ | ⟨g, cap, cur, hv, _⟩
  · subst hv; exact .inl rfl
  · subst hv; exact .inr (by simp [Value.ownBlock])
theorem GrowL.start (w : World) (te tb : TypeId) (l : Nat → List Nat) : GrowL w w te tb (.slice none 0 0) 0 (fun _ => none) (fun _ => 0) l :=
  ⟨World.ownsRow_nil w _ te 1, fun i hi => by omega, fun i j hi => by omega, Below.refl _ _⟩
theorem GrowL.shape {w wr : World} {te tb : TypeId} {v : Value} {k : Nat} {pa : Nat → Option Addr} {cp : Nat → Nat} {l : Nat → List Nat} (h : GrowL w wr te tb v k pa cp l) : ∃ A c, v = .slice A k c ∧ k ≤ c ∧ (A = none → c = 0) := by
  rcases h.own.2 with ⟨hv, h0⟩ | ⟨g, cap, cur, hv, _, _, h1, _⟩
  · subst hv; exact ⟨none, 0, by rw [h0], by omega, fun _ => rfl⟩
  · subst hv; exact ⟨_, cap, rfl, h1, fun h => by cases h⟩
theorem GrowL.cell {w wr : World} {te tb : TypeId} {v : Value} {k : Nat} {pa : Nat → Option Addr} {cp : Nat → Nat} {l : Nat → List Nat} (h : GrowL w wr te tb v k pa cp l) {i : Nat} (hi : i < k) :
    ∃ g c, v = .slice (some ⟨g, 0, none⟩) k c ∧ k ≤ c ∧ w.heap.size ≤ g ∧ g < wr.heap.size ∧ ∀ j, j < k → wr.cell? ⟨g, j, none⟩ = some (.slice (pa j) (l j).length (cp j)) ∧ wr.frozen? ⟨g, j, none⟩ = false := by
  rcases h.own.2 with ⟨hv, h0⟩ | ⟨g, cap, cur, hv, hb, hg, h1, _⟩
  · omega
  · subst hv
    refine ⟨g, cap, rfl, h1, hb, (Array.getElem?_eq_some_iff.1 hg).1, fun j hj => ⟨?_, h.own.frozenAt j⟩⟩
    rw [h.own.cellAt j (by omega)]
    simp [rvl, hj]
/-- As rows that are read. -/
theorem GrowL.min {w wr : World} {te tb : TypeId} {v : Value} {R : Nat} {pa : Nat → Option Addr} {cp : Nat → Nat} {l : Nat → List Nat} (h : GrowL w wr te tb v R pa cp l) :
    ∃ A c, v = .slice A R c ∧ MIn wr wr.heap.size A c R pa cp l := by
  obtain ⟨A, c, hv, hc, hn⟩ := h.shape
  refine ⟨A, c, hv, ⟨fun i hi => ?_, hc, hn⟩⟩
  obtain ⟨g, c2, hv2, _, _, hg, hcell⟩ := h.cell hi
  rw [hv] at hv2
  injection hv2 with h1 _ h3
  refine ⟨g, 0, h1, hg, ?_, (h.row i hi).inn⟩
  rw [Nat.zero_add, (hcell i hi).1]
end Gw
