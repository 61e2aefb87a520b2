/- Rows that a call appends one by one to rows of its own. -/
import Derived.Test.YtabalhhodcajmaaMat
namespace Gw
open Go Go.RowKit Go.Shelf
theorem Own.row {w : World} {base : Nat} {e : TypeId} {g c : Nat} {l : List Nat} (h : Own w base e (some ⟨g, 0, none⟩) c l) : Row w g l.length (fun j => .int .u8 (Pol.co l j : Int)) := fun o ho => ⟨h.cell ho, h.frozen o⟩
/-- The values of k rows of n bytes. -/
def rvs (pa : Nat → Option Addr) (cp : Nat → Nat) (n k : Nat) : List Value := (List.range k).map fun i => Value.slice (pa i) n (cp i)
theorem rvs_len (pa : Nat → Option Addr) (cp : Nat → Nat) (n k : Nat) : (rvs pa cp n k).length = k := by simp [rvs]
/-- k rows have been appended: v holds them; row i lies at pa i. -/
structure Grow (w wr : World) (te tb : TypeId) (v : Value) (n k : Nat) (pa : Nat → Option Addr) (cp : Nat → Nat) (l : Nat → List Nat) : Prop where
  own : wr.ownsRow w.heap.size te 1 v k (rvs pa cp n k)
  row : ∀ i, i < k → Own wr w.heap.size tb (pa i) (cp i) (l i)
  dis : ∀ i j, i < k → j < k → i ≠ j → ∀ b o o', pa i = some ⟨b, o, none⟩ → pa j ≠ some ⟨b, o', none⟩
  bel : Below w.heap.size w wr
theorem Own.tag {w : World} {base : Nat} {e : TypeId} {b o c : Nat} {l : List Nat} (h : Own w base e (some ⟨b, o, none⟩) c l) : ∃ cur, w.heap[b]? = some (.cells cur e (0, 0)) := by
  rcases h.1.2 with ⟨hv, _⟩ | ⟨g, cap, cur, hv, _, hg, _⟩
  · injection hv with h1; cases h1
  · injection hv with h1
    injection h1 with h1
    injection h1 with h2
    subst h2
    exact ⟨cur, hg⟩
theorem tag_ne {w : World} {base k : Nat} {e e' : TypeId} {v : Value} {vs : List Value} {b o c : Nat} {l : List Nat} (h : w.ownsRow base e 1 v k vs) (h' : Own w base e' (some ⟨b, o, none⟩) c l) (hne : e ≠ e') : v.ownBlock ≠ some b := fun hb => by
  obtain ⟨cur, hc⟩ := h'.tag
  rcases h.2 with ⟨hv, _⟩ | ⟨g, cap, cur2, hv, _, hg, _⟩
  · subst hv; cases hb
  · subst hv
    simp [Value.ownBlock] at hb
    subst hb
    rw [hc] at hg
    injection hg with hg
    injection hg with _ h2
    exact hne h2.symm
theorem Grow.step {w wr w2 w3 : World} {te tb : TypeId} {v v' : Value} {n k : Nat} {pa : Nat → Option Addr} {cp : Nat → Nat} {l : Nat → List Nat} (h : Grow w wr te tb v n k pa cp l) (hne : te ≠ tb)
    {A2 : Option Addr} {c2 : Nat} (hb : Below wr.heap.size wr w2) (ho : Own w2 wr.heap.size tb A2 c2 (l k)) (o : Obj) (hown : w3.ownsRow w.heap.size te 1 v' (k + 1) (rvs pa cp n k ++ [.slice A2 n c2])) (hg : (w2.alloc o).grownBy w3 v.ownBlock) :
    Grow w w3 te tb v' n (k + 1) (fun i => if i = k then A2 else pa i) (fun i => if i = k then c2 else cp i) l := by
  have hs := h.bel.size
  have hs2 := hb.size
  have hown2 : w2.ownsRow w.heap.size te 1 v k (rvs pa cp n k) := by
    refine h.own.kept (row := none) ⟨hb.os, hb.tape, hb.output, hb.size, fun i hi _ => hb.block i hi⟩ ?_
    rcases h.own.2 with ⟨hv, _⟩ | ⟨g, cap, cur, hv, _⟩
    · subst hv; exact .inl rfl
    · subst hv; exact .inr (by simp [Value.ownBlock])
  have hvb : ∀ b, v.ownBlock = some b → w.heap.size ≤ b := fun b hb => (h.own.lt b hb).1
  have hkeep : ∀ {A : Option Addr} {c : Nat} {x : List Nat} {base : Nat}, base ≤ w2.heap.size → w.heap.size ≤ base → Own w2 base tb A c x → Own w3 base tb A c x := fun {A c x base} hb1 hb2 hO => by
    have hO1 := hO.alloc o
    refine ⟨hO1.1.kept hg ?_, hO.2⟩
    cases A with
    | none => exact .inl rfl
    | some a =>
      obtain ⟨b, of, sp⟩ := a
      rcases hO.1.2 with ⟨hv, _⟩ | ⟨g2, cap, cur, hv, _⟩
      · injection hv with h1; cases h1
      · injection hv with h1
        injection h1 with h1
        injection h1 with h2 h3 h4
        subst h2 h3 h4
        refine .inr fun e => tag_ne hown2 (hO.base hb2) hne ?_
        simp [Value.ownBlock] at e
        exact e.symm
  refine ⟨?_, fun i hi => ?_, fun i j hi hj hij b o o' e1 e2 => ?_, ?_⟩
  · have e : rvs pa cp n k ++ [.slice A2 n c2] = rvs (fun i => if i = k then A2 else pa i) (fun i => if i = k then c2 else cp i) n (k + 1) := by
      unfold rvs
      rw [List.range_succ, List.map_append]
      congr 1
      · refine List.map_congr_left fun i hi => ?_
        have := List.mem_range.1 hi
        simp only [if_neg (show i ≠ k by omega)]
      · simp
    rw [e] at hown
    exact hown
  · by_cases e : i = k
    · subst e
      simp only [if_true]
      exact (hkeep hs2 hs ho).base hs
    · simp only [if_neg e]
      exact hkeep (by omega) (Nat.le_refl _) ((h.row i (by omega)).kept hb)
  · by_cases e3 : i = k
    · subst e3
      have e4 : j ≠ i := fun e => hij e.symm
      simp only [if_true] at e1
      simp only [if_neg e4] at e2
      subst e1
      have h1 := (ho.1.lt b rfl).1
      have h2 := h.row j (by omega)
      rw [e2] at h2
      have := (h2.1.lt b rfl).2
      omega
    · simp only [if_neg e3] at e1
      have h1 := h.row i (by omega)
      rw [e1] at h1
      have h1 := (h1.1.lt b rfl).2
      by_cases e4 : j = k
      · subst e4
        simp only [if_true] at e2
        subst e2
        have := (ho.1.lt b rfl).1
        omega
      · simp only [if_neg e4] at e2
        exact h.dis i j (by omega) (by omega) hij b o o' e1 e2
  · refine (h.bel.trans (hb.mono hs)).trans ?_
    exact ((Below.refl w.heap.size w2).alloc (by omega) o).grown hg (by simp; omega) (fun b hb => hvb b hb)
theorem Grow.own2 {w wr w2 : World} {te tb : TypeId} {v : Value} {n k : Nat} {pa : Nat → Option Addr} {cp : Nat → Nat} {l : Nat → List Nat} (h : Grow w wr te tb v n k pa cp l) (hb : Below wr.heap.size wr w2) : w2.ownsRow w.heap.size te 1 v k (rvs pa cp n k) := by
  refine h.own.kept (row := none) ⟨hb.os, hb.tape, hb.output, hb.size, fun i hi _ => hb.block i hi⟩ ?_
  rcases h.own.2 with ⟨hv, _⟩ | ⟨g, cap, cur, hv, _⟩
  · subst hv; exact .inl rfl
  · subst hv; exact .inr (by simp [Value.ownBlock])
theorem Grow.start (w : World) (te tb : TypeId) (n : Nat) (l : Nat → List Nat) : Grow w w te tb (.slice none 0 0) n 0 (fun _ => none) (fun _ => 0) l :=
  ⟨World.ownsRow_nil w _ te 1, fun i hi => by omega, fun i j hi => by omega, Below.refl _ _⟩
theorem Grow.shape {w wr : World} {te tb : TypeId} {v : Value} {n k : Nat} {pa : Nat → Option Addr} {cp : Nat → Nat} {l : Nat → List Nat} (h : Grow w wr te tb v n k pa cp l) : ∃ A c, v = .slice A k c ∧ k ≤ c ∧ (A = none → c = 0) := by
  rcases h.own.2 with ⟨hv, h0⟩ | ⟨g, cap, cur, hv, _, _, h1, _⟩
  · subst hv; exact ⟨none, 0, by rw [h0], by omega, fun _ => rfl⟩
  · subst hv; exact ⟨_, cap, rfl, h1, fun h => by cases h⟩
theorem Grow.cell {w wr : World} {te tb : TypeId} {v : Value} {n k : Nat} {pa : Nat → Option Addr} {cp : Nat → Nat} {l : Nat → List Nat} (h : Grow w wr te tb v n k pa cp l) {i : Nat} (hi : i < k) :
    ∃ g c, v = .slice (some ⟨g, 0, none⟩) k c ∧ k ≤ c ∧ w.heap.size ≤ g ∧ g < wr.heap.size ∧ ∀ j, j < k → wr.cell? ⟨g, j, none⟩ = some (.slice (pa j) n (cp j)) ∧ wr.frozen? ⟨g, j, none⟩ = false := by
  rcases h.own.2 with ⟨hv, h0⟩ | ⟨g, cap, cur, hv, hb, hg, h1, _⟩
  · omega
  · subst hv
    refine ⟨g, cap, rfl, h1, hb, (Array.getElem?_eq_some_iff.1 hg).1, fun j hj => ⟨?_, h.own.frozenAt j⟩⟩
    rw [h.own.cellAt j (by omega)]
    simp [rvs, hj]
/-- As a table. -/
theorem Grow.tab {w wr : World} {te tb : TypeId} {v : Value} {n R : Nat} {pa : Nat → Option Addr} {cp : Nat → Nat} {l : Nat → List Nat} (h : Grow w wr te tb v n R pa cp l) (hne : te ≠ tb) (hR : 0 < R) (hn : 0 < n) (hl : ∀ i, i < R → (l i).length = n) :
    ∃ g c bs, v = .slice (some ⟨g, 0, none⟩) R c ∧ R ≤ c ∧ Tab wr w.heap.size wr.heap.size g bs cp (fun i j => Pol.co (l i) j) R n := by
  obtain ⟨g, c, hv, hc, hg1, hg2, hcell⟩ := h.cell hR
  have hp : ∀ i, i < R → pa i = some ⟨((pa i).getD ⟨0, 0, none⟩).block, 0, none⟩ := fun i hi => by
    obtain ⟨b, hb, _⟩ := (h.row i hi).store (k := 0) (by rw [hl i hi]; exact hn)
    rw [hb]; rfl
  refine ⟨g, c, fun i => ((pa i).getD ⟨0, 0, none⟩).block, hv, hc, ⟨fun i hi => ?_, fun i hi => ?_, fun i j hi hj e => ?_, fun i hi e => ?_, ⟨hg1, hg2⟩, fun i hi => ?_, fun i hi => ?_, Nat.le_refl _⟩⟩
  · have := hcell i hi
    rw [hp i hi] at this
    exact this
  · have := h.row i hi
    rw [hp i hi] at this
    have hr := this.row
    rw [hl i hi] at hr
    exact hr
  · refine Decidable.byContradiction fun hij => h.dis i j hi hj hij _ _ 0 (hp i hi) ?_
    rw [hp j hj]
    simp only [Option.some.injEq, Addr.mk.injEq, and_true]
    exact e.symm
  · have := h.row i hi
    rw [hp i hi] at this
    refine tag_ne h.own this hne ?_
    rw [hv]
    simp only [Value.ownBlock, Option.some.injEq]
    exact e.symm
  · have := h.row i hi
    rw [hp i hi] at this
    exact this.lt
  · have := (h.row i hi).cap
    rw [hl i hi] at this
    exact this
/-- As rows that are read. -/
theorem Grow.min {w wr : World} {te tb : TypeId} {v : Value} {n R : Nat} {pa : Nat → Option Addr} {cp : Nat → Nat} {l : Nat → List Nat} (h : Grow w wr te tb v n R pa cp l) (hl : ∀ i, i < R → (l i).length = n) :
    ∃ A c, v = .slice A R c ∧ MIn wr wr.heap.size A c R pa cp l := by
  obtain ⟨A, c, hv, hc, hn⟩ := h.shape
  refine ⟨A, c, hv, ⟨fun i hi => ?_, hc, hn⟩⟩
  obtain ⟨g, c2, hv2, _, _, hg, hcell⟩ := h.cell hi
  rw [hv] at hv2
  injection hv2 with h1 _ h3
  refine ⟨g, 0, h1, hg, ?_, (h.row i hi).inn⟩
  rw [Nat.zero_add, (hcell i hi).1, hl i hi]
end Gw
