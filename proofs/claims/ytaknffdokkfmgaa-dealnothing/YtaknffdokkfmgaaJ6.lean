import Derived.Maps.AppendAt
import Derived.StillTailTactics
import Derived.RangeFuncOwn
import Derived.RangeFuncFrom
import Derived.RangeFuncKeeps
import Derived.RangeFuncNested
import Derived.RangeFuncBound
import Derived.RangeFuncCalls
import Derived.RangeFuncLeaves
import Derived.Shelf.Abstract
import Derived.Shelf.RegionOpen
import Derived.WalkKit
import Derived.OwnWalkIn
import Derived.TacticsInMore
import Derived.LoopNIn
import Derived.LoopIn
import Derived.WalkSpells
import Derived.WalkLawsBesides
import Derived.Laws.BitsAllLaws
import Derived.Test.YtaknffdokkfmgaaProg
import Derived.Test.YtaknffdokkfmgaaJ1
import Derived.Test.YtaknffdokkfmgaaJ2
import Derived.Test.YtaknffdokkfmgaaJ3
import Derived.Test.YtaknffdokkfmgaaJ4
import Derived.Test.YtaknffdokkfmgaaJ5
section
/- Rows that a call appends one by one to rows of its own. -/
namespace Gw
open Go Go.RowKit Go.Shelf
theorem Own.row {w : World} {base : Nat} {e : TypeId} {g c : Nat} {l : List Nat} (h : Own w base e (some ⟨g, 0, none⟩) c l) : Row w g l.length (fun j => .int .u8 (Pol.co l j : Int)) := fun o ho => ⟨h.cell ho, h.frozen o⟩
/-- The values of k rows of n bytes. -/
def rvs (pa : Nat → Option Addr) (cp : Nat → Nat) (n k : Nat) : List Value := (List.range k).map fun i => Value.slice (pa i) n (cp i)
theorem rvs_len (pa : Nat → Option Addr) (cp : Nat → Nat) (n k : Nat) : (rvs pa cp n k).length = k := by simp [rvs]
/-- k rows have been appended: v holds them; row i lies at pa i. -/
structure Grow (w wr : World) (te tb : TypeId) (v : Value) (n k : Nat) (pa : Nat → Option Addr) (cp : Nat → Nat) (l : Nat → List Nat) : Prop where
  own : wr.ownsRow w.heap.size te 1 v k (rvs pa cp n k)
  row : ∀ i, i < k → Own wr w.heap.size tb (pa i) (cp i) (l i)
  dis : ∀ i j, i < k → j < k → i ≠ j → ∀ b o o', pa i = some ⟨b, o, none⟩ → pa j ≠ some ⟨b, o', none⟩
  bel : Below w.heap.size w wr
theorem Own.tag {w : World} {base : Nat} {e : TypeId} {b o c : Nat} {l : List Nat} (h : Own w base e (some ⟨b, o, none⟩) c l) : ∃ cur, w.heap[b]? = some (.cells cur e (0, 0)) := by
  rcases h.1.2 with ⟨hv, _⟩ | ⟨g, cap, cur, hv, _, hg, _⟩
  · injection hv with h1; cases h1
  · injection hv with h1
    injection h1 with h1
    injection h1 with h2
    subst h2
    exact ⟨cur, hg⟩
theorem tag_ne {w : World} {base k : Nat} {e e' : TypeId} {v : Value} {vs : List Value} {b o c : Nat} {l : List Nat} (h : w.ownsRow base e 1 v k vs) (h' : Own w base e' (some ⟨b, o, none⟩) c l) (hne : e ≠ e') : v.ownBlock ≠ some b := fun hb => by
  obtain ⟨cur, hc⟩ := h'.tag
  rcases h.2 with ⟨hv, _⟩ | ⟨g, cap, cur2, hv, _, hg, _⟩
  · subst hv; cases hb
  · subst hv
    simp [Value.ownBlock] at hb
    subst hb
    rw [hc] at hg
    injection hg with hg
    injection hg with _ h2
    exact hne h2.symm
theorem Grow.step {w wr w2 w3 : World} {te tb : TypeId} {v v' : Value} {n k : Nat} {pa : Nat → Option Addr} {cp : Nat → Nat} {l : Nat → List Nat} (h : Grow w wr te tb v n k pa cp l) (hne : te ≠ tb)
    {A2 : Option Addr} {c2 : Nat} (hb : Below wr.heap.size wr w2) (ho : Own w2 wr.heap.size tb A2 c2 (l k)) (o : Obj) (hown : w3.ownsRow w.heap.size te 1 v' (k + 1) (rvs pa cp n k ++ [.slice A2 n c2])) (hg : (w2.alloc o).grownBy w3 v.ownBlock) :
    Grow w w3 te tb v' n (k + 1) (fun i => if i = k then A2 else pa i) (fun i => if i = k then c2 else cp i) l := by
  have hs := h.bel.size
  have hs2 := hb.size
  have hown2 : w2.ownsRow w.heap.size te 1 v k (rvs pa cp n k) := by
    refine h.own.kept (row := none) ⟨hb.os, hb.tape, hb.output, hb.size, fun i hi _ => hb.block i hi⟩ ?_
    rcases h.own.2 with ⟨hv, _⟩ | ⟨g, cap, cur, hv, _⟩
    · subst hv; exact .inl rfl
    · subst hv; exact .inr (by simp [Value.ownBlock])
  have hvb : ∀ b, v.ownBlock = some b → w.heap.size ≤ b := fun b hb => (h.own.lt b hb).1
  have hkeep : ∀ {A : Option Addr} {c : Nat} {x : List Nat} {base : Nat}, base ≤ w2.heap.size → w.heap.size ≤ base → Own w2 base tb A c x → Own w3 base tb A c x := fun {A c x base} hb1 hb2 hO => by
    have hO1 := hO.alloc o
    refine ⟨hO1.1.kept hg ?_, hO.2⟩
    cases A with
    | none => exact .inl rfl
    | some a =>
      obtain ⟨b, of, sp⟩ := a
      rcases hO.1.2 with ⟨hv, _⟩ | ⟨g2, cap, cur, hv, _⟩
      · injection hv with h1; cases h1
      · injection hv with h1
        injection h1 with h1
        injection h1 with h2 h3 h4
        subst h2 h3 h4
        refine .inr fun e => tag_ne hown2 (hO.base hb2) hne ?_
        simp [Value.ownBlock] at e
        exact e.symm
  refine ⟨?_, fun i hi => ?_, fun i j hi hj hij b o o' e1 e2 => ?_, ?_⟩
  · have e : rvs pa cp n k ++ [.slice A2 n c2] = rvs (fun i => if i = k then A2 else pa i) (fun i => if i = k then c2 else cp i) n (k + 1) := by
      unfold rvs
      rw [List.range_succ, List.map_append]
      congr 1
      · refine List.map_congr_left fun i hi => ?_
        have := List.mem_range.1 hi
        simp only [if_neg (show i ≠ k by omega)]
      · simp
    rw [e] at hown
    exact hown
  · by_cases e : i = k
    · subst e
      simp only [if_true]
      exact (hkeep hs2 hs ho).base hs
    · simp only [if_neg e]
      exact hkeep (by omega) (Nat.le_refl _) ((h.row i (by omega)).kept hb)
  · by_cases e3 : i = k
    · subst e3
      have e4 : j ≠ i := fun e => hij e.symm
      simp only [if_true] at e1
      simp only [if_neg e4] at e2
      subst e1
      have h1 := (ho.1.lt b rfl).1
      have h2 := h.row j (by omega)
      rw [e2] at h2
      have := (h2.1.lt b rfl).2
      omega
    · simp only [if_neg e3] at e1
      have h1 := h.row i (by omega)
      rw [e1] at h1
      have h1 := (h1.1.lt b rfl).2
      by_cases e4 : j = k
      · subst e4
        simp only [if_true] at e2
        subst e2
        have := (ho.1.lt b rfl).1
        omega
      · simp only [if_neg e4] at e2
        exact h.dis i j (by omega) (by omega) hij b o o' e1 e2
  · refine (h.bel.trans (hb.mono hs)).trans ?_
    exact ((Below.refl w.heap.size w2).alloc (by omega) o).grown hg (by simp; omega) (fun b hb => hvb b hb)
theorem Grow.own2 {w wr w2 : World} {te tb : TypeId} {v : Value} {n k : Nat} {pa : Nat → Option Addr} {cp : Nat → Nat} {l : Nat → List Nat} (h : Grow w wr te tb v n k pa cp l) (hb : Below wr.heap.size wr w2) : w2.ownsRow w.heap.size te 1 v k (rvs pa cp n k) := by
  refine h.own.kept (row := none) ⟨hb.os, hb.tape, hb.output, hb.size, fun i hi _ => hb.block i hi⟩ ?_
  rcases h.own.2 with ⟨hv, _⟩ | ⟨g, cap, cur, hv, _⟩
  · subst hv; exact .inl rfl
  · subst hv; exact .inr (by simp [Value.ownBlock])
theorem Grow.start (w : World) (te tb : TypeId) (n : Nat) (l : Nat → List Nat) : Grow w w te tb (.slice none 0 0) n 0 (fun _ => none) (fun _ => 0) l :=
  ⟨World.ownsRow_nil w _ te 1, fun i hi => by omega, fun i j hi => by omega, Below.refl _ _⟩
theorem Grow.shape {w wr : World} {te tb : TypeId} {v : Value} {n k : Nat} {pa : Nat → Option Addr} {cp : Nat → Nat} {l : Nat → List Nat} (h : Grow w wr te tb v n k pa cp l) : ∃ A c, v = .slice A k c ∧ k ≤ c ∧ (A = none → c = 0) := by
  rcases h.own.2 with ⟨hv, h0⟩ | ⟨g, cap, cur, hv, _, _, h1, _⟩
  · subst hv; exact ⟨none, 0, by rw [h0], by omega, fun _ => rfl⟩
  · subst hv; exact ⟨_, cap, rfl, h1, fun h => by cases h⟩
theorem Grow.cell {w wr : World} {te tb : TypeId} {v : Value} {n k : Nat} {pa : Nat → Option Addr} {cp : Nat → Nat} {l : Nat → List Nat} (h : Grow w wr te tb v n k pa cp l) {i : Nat} (hi : i < k) :
    ∃ g c, v = .slice (some ⟨g, 0, none⟩) k c ∧ k ≤ c ∧ w.heap.size ≤ g ∧ g < wr.heap.size ∧ ∀ j, j < k → wr.cell? ⟨g, j, none⟩ = some (.slice (pa j) n (cp j)) ∧ wr.frozen? ⟨g, j, none⟩ = false := by
  rcases h.own.2 with ⟨hv, h0⟩ | ⟨g, cap, cur, hv, hb, hg, h1, _⟩
  · omega
  · subst hv
    refine ⟨g, cap, rfl, h1, hb, (Array.getElem?_eq_some_iff.1 hg).1, fun j hj => ⟨?_, h.own.frozenAt j⟩⟩
    rw [h.own.cellAt j (by omega)]
    simp [rvs, hj]
/-- As a table. -/
theorem Grow.tab {w wr : World} {te tb : TypeId} {v : Value} {n R : Nat} {pa : Nat → Option Addr} {cp : Nat → Nat} {l : Nat → List Nat} (h : Grow w wr te tb v n R pa cp l) (hne : te ≠ tb) (hR : 0 < R) (hn : 0 < n) (hl : ∀ i, i < R → (l i).length = n) :
    ∃ g c bs, v = .slice (some ⟨g, 0, none⟩) R c ∧ R ≤ c ∧ Tab wr w.heap.size wr.heap.size g bs cp (fun i j => Pol.co (l i) j) R n := by
  obtain ⟨g, c, hv, hc, hg1, hg2, hcell⟩ := h.cell hR
  have hp : ∀ i, i < R → pa i = some ⟨((pa i).getD ⟨0, 0, none⟩).block, 0, none⟩ := fun i hi => by
    obtain ⟨b, hb, _⟩ := (h.row i hi).store (k := 0) (by rw [hl i hi]; exact hn)
    rw [hb]; rfl
  refine ⟨g, c, fun i => ((pa i).getD ⟨0, 0, none⟩).block, hv, hc, ⟨fun i hi => ?_, fun i hi => ?_, fun i j hi hj e => ?_, fun i hi e => ?_, ⟨hg1, hg2⟩, fun i hi => ?_, fun i hi => ?_, Nat.le_refl _⟩⟩
  · have := hcell i hi
    rw [hp i hi] at this
    exact this
  · have := h.row i hi
    rw [hp i hi] at this
    have hr := this.row
    rw [hl i hi] at hr
    exact hr
  · refine Decidable.byContradiction fun hij => h.dis i j hi hj hij _ _ 0 (hp i hi) ?_
    rw [hp j hj]
    simp only [Option.some.injEq, Addr.mk.injEq, and_true]
    exact e.symm
  · have := h.row i hi
    rw [hp i hi] at this
    refine tag_ne h.own this hne ?_
    rw [hv]
    simp only [Value.ownBlock, Option.some.injEq]
    exact e.symm
  · have := h.row i hi
    rw [hp i hi] at this
    exact this.lt
  · have := (h.row i hi).cap
    rw [hl i hi] at this
    exact this
/-- As rows that are read. -/
theorem Grow.min {w wr : World} {te tb : TypeId} {v : Value} {n R : Nat} {pa : Nat → Option Addr} {cp : Nat → Nat} {l : Nat → List Nat} (h : Grow w wr te tb v n R pa cp l) (hl : ∀ i, i < R → (l i).length = n) :
    ∃ A c, v = .slice A R c ∧ MIn wr wr.heap.size A c R pa cp l := by
  obtain ⟨A, c, hv, hc, hn⟩ := h.shape
  refine ⟨A, c, hv, ⟨fun i hi => ?_, hc, hn⟩⟩
  obtain ⟨g, c2, hv2, _, _, hg, hcell⟩ := h.cell hi
  rw [hv] at hv2
  injection hv2 with h1 _ h3
  refine ⟨g, 0, h1, hg, ?_, (h.row i hi).inn⟩
  rw [Nat.zero_add, (hcell i hi).1, hl i hi]
end Gw
end
section
/- Rows of any lengths that a call appends one by one to rows of its own. -/
namespace Gw
open Go Go.RowKit Go.Shelf
/-- The values of k rows. -/
def rvl (pa : Nat → Option Addr) (cp : Nat → Nat) (l : Nat → List Nat) (k : Nat) : List Value := (List.range k).map fun i => Value.slice (pa i) (l i).length (cp i)
theorem rvl_len (pa : Nat → Option Addr) (cp : Nat → Nat) (l : Nat → List Nat) (k : Nat) : (rvl pa cp l k).length = k := by simp [rvl]
/-- k rows have been appended: v holds them; row i lies at pa i. -/
structure GrowL (w wr : World) (te tb : TypeId) (v : Value) (k : Nat) (pa : Nat → Option Addr) (cp : Nat → Nat) (l : Nat → List Nat) : Prop where
  own : wr.ownsRow w.heap.size te 1 v k (rvl pa cp l k)
  row : ∀ i, i < k → Own wr w.heap.size tb (pa i) (cp i) (l i)
  dis : ∀ i j, i < k → j < k → i ≠ j → ∀ b o o', pa i = some ⟨b, o, none⟩ → pa j ≠ some ⟨b, o', none⟩
  bel : Below w.heap.size w wr
theorem GrowL.step {w wr w2 w3 : World} {te tb : TypeId} {v v' : Value} {k : Nat} {pa : Nat → Option Addr} {cp : Nat → Nat} {l : Nat → List Nat} (h : GrowL w wr te tb v k pa cp l) (hne : te ≠ tb)
    {A2 : Option Addr} {c2 : Nat} (hb : Below wr.heap.size wr w2) (ho : Own w2 wr.heap.size tb A2 c2 (l k)) (o : Obj) (hown : w3.ownsRow w.heap.size te 1 v' (k + 1) (rvl pa cp l k ++ [.slice A2 (l k).length c2])) (hg : (w2.alloc o).grownBy w3 v.ownBlock) :
    GrowL w w3 te tb v' (k + 1) (fun i => if i = k then A2 else pa i) (fun i => if i = k then c2 else cp i) l := by
  have hs := h.bel.size
  have hs2 := hb.size
  have hown2 : w2.ownsRow w.heap.size te 1 v k (rvl pa cp l k) := by
    refine h.own.kept (row := none) ⟨hb.os, hb.tape, hb.output, hb.size, fun i hi _ => hb.block i hi⟩ ?_
    rcases h.own.2 with ⟨hv, _⟩ | ⟨g, cap, cur, hv, _⟩
    · subst hv; exact .inl rfl
    · subst hv; exact .inr (by simp [Value.ownBlock])
  have hvb : ∀ b, v.ownBlock = some b → w.heap.size ≤ b := fun b hb => (h.own.lt b hb).1
  have hkeep : ∀ {A : Option Addr} {c : Nat} {x : List Nat} {base : Nat}, base ≤ w2.heap.size → w.heap.size ≤ base → Own w2 base tb A c x → Own w3 base tb A c x := fun {A c x base} hb1 hb2 hO => by
    have hO1 := hO.alloc o
    refine ⟨hO1.1.kept hg ?_, hO.2⟩
    cases A with
    | none => exact .inl rfl
    | some a =>
      obtain ⟨b, of, sp⟩ := a
      rcases hO.1.2 with ⟨hv, _⟩ | ⟨g2, cap, cur, hv, _⟩
      · injection hv with h1; cases h1
      · injection hv with h1
        injection h1 with h1
        injection h1 with h2 h3 h4
        subst h2 h3 h4
        refine .inr fun e => tag_ne hown2 (hO.base hb2) hne ?_
        simp [Value.ownBlock] at e
        exact e.symm
  refine ⟨?_, fun i hi => ?_, fun i j hi hj hij b o o' e1 e2 => ?_, ?_⟩
  · have e : rvl pa cp l k ++ [.slice A2 (l k).length c2] = rvl (fun i => if i = k then A2 else pa i) (fun i => if i = k then c2 else cp i) l (k + 1) := by
      unfold rvl
      rw [List.range_succ, List.map_append]
      congr 1
      · refine List.map_congr_left fun i hi => ?_
        have := List.mem_range.1 hi
        simp only [if_neg (show i ≠ k by omega)]
      · simp
    rw [e] at hown
    exact hown
  · by_cases e : i = k
    · subst e
      simp only [if_true]
      exact (hkeep hs2 hs ho).base hs
    · simp only [if_neg e]
      exact hkeep (by omega) (Nat.le_refl _) ((h.row i (by omega)).kept hb)
  · by_cases e3 : i = k
    · subst e3
      have e4 : j ≠ i := fun e => hij e.symm
      simp only [if_true] at e1
      simp only [if_neg e4] at e2
      subst e1
      have h1 := (ho.1.lt b rfl).1
      have h2 := h.row j (by omega)
      rw [e2] at h2
      have := (h2.1.lt b rfl).2
      omega
    · simp only [if_neg e3] at e1
      have h1 := h.row i (by omega)
      rw [e1] at h1
      have h1 := (h1.1.lt b rfl).2
      by_cases e4 : j = k
      · subst e4
        simp only [if_true] at e2
        subst e2
        have := (ho.1.lt b rfl).1
        omega
      · simp only [if_neg e4] at e2
        exact h.dis i j (by omega) (by omega) hij b o o' e1 e2
  · refine (h.bel.trans (hb.mono hs)).trans ?_
    exact ((Below.refl w.heap.size w2).alloc (by omega) o).grown hg (by simp; omega) (fun b hb => hvb b hb)
theorem GrowL.own2 {w wr w2 : World} {te tb : TypeId} {v : Value} {k : Nat} {pa : Nat → Option Addr} {cp : Nat → Nat} {l : Nat → List Nat} (h : GrowL w wr te tb v k pa cp l) (hb : Below wr.heap.size wr w2) : w2.ownsRow w.heap.size te 1 v k (rvl pa cp l k) := by
  refine h.own.kept (row := none) ⟨hb.os, hb.tape, hb.output, hb.size, fun i hi _ => hb.block i hi⟩ ?_
  rcases h.own.2 with ⟨hv, _⟩ | ⟨g, cap, cur, hv, _⟩
  · subst hv; exact .inl rfl
  · subst hv; exact .inr (by simp [Value.ownBlock])
theorem GrowL.start (w : World) (te tb : TypeId) (l : Nat → List Nat) : GrowL w w te tb (.slice none 0 0) 0 (fun _ => none) (fun _ => 0) l :=
  ⟨World.ownsRow_nil w _ te 1, fun i hi => by omega, fun i j hi => by omega, Below.refl _ _⟩
theorem GrowL.shape {w wr : World} {te tb : TypeId} {v : Value} {k : Nat} {pa : Nat → Option Addr} {cp : Nat → Nat} {l : Nat → List Nat} (h : GrowL w wr te tb v k pa cp l) : ∃ A c, v = .slice A k c ∧ k ≤ c ∧ (A = none → c = 0) := by
  rcases h.own.2 with ⟨hv, h0⟩ | ⟨g, cap, cur, hv, _, _, h1, _⟩
  · subst hv; exact ⟨none, 0, by rw [h0], by omega, fun _ => rfl⟩
  · subst hv; exact ⟨_, cap, rfl, h1, fun h => by cases h⟩
theorem GrowL.cell {w wr : World} {te tb : TypeId} {v : Value} {k : Nat} {pa : Nat → Option Addr} {cp : Nat → Nat} {l : Nat → List Nat} (h : GrowL w wr te tb v k pa cp l) {i : Nat} (hi : i < k) :
    ∃ g c, v = .slice (some ⟨g, 0, none⟩) k c ∧ k ≤ c ∧ w.heap.size ≤ g ∧ g < wr.heap.size ∧ ∀ j, j < k → wr.cell? ⟨g, j, none⟩ = some (.slice (pa j) (l j).length (cp j)) ∧ wr.frozen? ⟨g, j, none⟩ = false := by
  rcases h.own.2 with ⟨hv, h0⟩ | ⟨g, cap, cur, hv, hb, hg, h1, _⟩
  · omega
  · subst hv
    refine ⟨g, cap, rfl, h1, hb, (Array.getElem?_eq_some_iff.1 hg).1, fun j hj => ⟨?_, h.own.frozenAt j⟩⟩
    rw [h.own.cellAt j (by omega)]
    simp [rvl, hj]
/-- As rows that are read. -/
theorem GrowL.min {w wr : World} {te tb : TypeId} {v : Value} {R : Nat} {pa : Nat → Option Addr} {cp : Nat → Nat} {l : Nat → List Nat} (h : GrowL w wr te tb v R pa cp l) :
    ∃ A c, v = .slice A R c ∧ MIn wr wr.heap.size A c R pa cp l := by
  obtain ⟨A, c, hv, hc, hn⟩ := h.shape
  refine ⟨A, c, hv, ⟨fun i hi => ?_, hc, hn⟩⟩
  obtain ⟨g, c2, hv2, _, _, hg, hcell⟩ := h.cell hi
  rw [hv] at hv2
  injection hv2 with h1 _ h3
  refine ⟨g, 0, h1, hg, ?_, (h.row i hi).inn⟩
  rw [Nat.zero_add, (hcell i hi).1]
end Gw
end
section
/- A table of rows of the call's own: rows of any lengths, each in a block of its own; the rows' slices lie in block g. -/
namespace Gw
open Go Go.RowKit Go.Shelf
theorem Own.block {W W2 : World} {base c : Nat} {e : TypeId} {A : Option Addr} {l : List Nat} (h : Own W base e A c l) (hb : ∀ b o, A = some ⟨b, o, none⟩ → W2.heap[b]? = W.heap[b]?) : Own W2 base e A c l := by
  refine ⟨⟨h.1.1, ?_⟩, h.2⟩
  rcases h.1.2 with h0 | ⟨g, cap, cur, hv, hg, hgb, h0⟩
  · exact .inl h0
  · injection hv with hA hn hc
    exact .inr ⟨g, cap, cur, by rw [hA, hc], hg, (hb g 0 hA).trans hgb, h0⟩
theorem Own.other {w : World} {base c g k : Nat} {e : TypeId} {A : Option Addr} {l : List Nat} (h : Own w base e A c l) (hne : ∀ o, A ≠ some ⟨g, o, none⟩) (v : Value) : Own (w.setCell ⟨g, k, none⟩ v) base e A c l :=
  h.block fun b o e => Below.heap_setCell _ _ _ _ (fun e2 => hne o (by rw [e]; exact congrArg (fun b => some (Addr.mk b o none)) e2))
structure Otb (W : World) (base : Nat) (tb : TypeId) (g R : Nat) (pa : Nat → Option Addr) (cp : Nat → Nat) (l : Nat → List Nat) : Prop where
  out : Row W g R (fun i => .slice (pa i) (l i).length (cp i))
  row : ∀ i, i < R → Own W base tb (pa i) (cp i) (l i)
  dis : ∀ i j, i < R → j < R → i ≠ j → ∀ b o o', pa i = some ⟨b, o, none⟩ → pa j ≠ some ⟨b, o', none⟩
  ne : ∀ i, i < R → ∀ o, pa i ≠ some ⟨g, o, none⟩
  glo : base ≤ g ∧ g < W.heap.size
def upd {α : Type} (f : Nat → α) (i : Nat) (x : α) : Nat → α := fun j => if j = i then x else f j
theorem upd_same {α : Type} (f : Nat → α) (i : Nat) (x : α) : upd f i x i = x := by simp [upd]
theorem upd_other {α : Type} {f : Nat → α} {i j : Nat} {x : α} (h : j ≠ i) : upd f i x j = f j := by simp [upd, h]
section
variable {W W2 : World} {base g R : Nat} {tb : TypeId} {pa : Nat → Option Addr} {cp : Nat → Nat} {l : Nat → List Nat}
theorem Otb.below (h : Otb W base tb g R pa cp l) (hb : Below W.heap.size W W2) : Otb W2 base tb g R pa cp l :=
  ⟨h.out.below hb h.glo.2, fun i hi => (h.row i hi).kept hb, h.dis, h.ne, h.glo.1, Nat.lt_of_lt_of_le h.glo.2 hb.size⟩
theorem Otb.min (h : Otb W base tb g R pa cp l) (c : Nat) (hc : R ≤ c) : MIn W W.heap.size (some ⟨g, 0, none⟩) c R pa cp l :=
  ⟨fun i hi => ⟨g, 0, rfl, h.glo.2, by rw [Nat.zero_add]; exact (h.out i hi).1, (h.row i hi).inn⟩, hc, fun e => by cases e⟩
theorem Otb.congr {m : Nat → List Nat} (h : Otb W base tb g R pa cp l) (e : ∀ i, i < R → l i = m i) : Otb W base tb g R pa cp m :=
  ⟨h.out.congr fun i hi => by rw [e i hi], fun i hi => by rw [← e i hi]; exact h.row i hi, h.dis, h.ne, h.glo⟩
/-- 'make([][]byte, R)'. -/
theorem Otb.made (w : World) (te tb : TypeId) (R base : Nat) (hb : base ≤ w.heap.size) : Otb (w.alloc (.cells (madeCells #[.slice none 0 0] R) te)) base tb w.heap.size R (fun _ => none) (fun _ => 0) (fun _ => []) := by
  refine ⟨fun o ho => ⟨?_, World.frozen?_alloc_new w _ te o⟩, fun i _ => Own.none_ _ _ _, fun i j _ _ _ b o o' e => (by cases e), fun i _ o e => (by cases e), hb, by simp⟩
  rw [World.cell?_alloc_new w _ te o]
  simp [madeCells, ho, Nat.mod_one]
/-- Row i is another one. -/
theorem Otb.turn (h : Otb W base tb g R pa cp l) {i : Nat} (hi : i < R) (hs : W.heap.size ≤ W2.heap.size) (hblk : ∀ b, b < W.heap.size → (∀ o, pa i ≠ some ⟨b, o, none⟩) → W2.heap[b]? = W.heap[b]?)
    {A2 : Option Addr} {c2 : Nat} {L2 : List Nat} (hown : Own W2 base tb A2 c2 L2) (hloc : ∀ b o, A2 = some ⟨b, o, none⟩ → W.heap.size ≤ b ∨ ∃ o', pa i = some ⟨b, o', none⟩) (n2 : Nat) (hn2 : n2 = L2.length) :
    Otb (W2.setCell ⟨g, i, none⟩ (.slice A2 n2 c2)) base tb g R (upd pa i A2) (upd cp i c2) (upd l i L2) := by
  subst hn2
  have hg := h.glo
  have hneA : ∀ o, A2 ≠ some ⟨g, o, none⟩ := fun o e => by
    rcases hloc g o e with h1 | ⟨o', h1⟩
    · omega
    · exact h.ne i hi o' h1
  have hlt : ∀ j, j < R → ∀ b o, pa j = some ⟨b, o, none⟩ → b < W.heap.size := fun j hj b o e => by
    have := h.row j hj
    rw [e] at this
    exact this.lt.2
  have hgb : W2.heap[g]? = W.heap[g]? := hblk g hg.2 (h.ne i hi)
  have hout : Row W2 g R (fun i => .slice (pa i) (l i).length (cp i)) := fun o ho =>
    ⟨(World.cell?_of_block (w := W) (a := ⟨g, o, none⟩) hgb).trans (h.out o ho).1, (World.frozen?_of_block (w := W) (a := ⟨g, o, none⟩) hgb).trans (h.out o ho).2⟩
  refine ⟨(hout.set hi _).congr fun j hj => ?_, fun j hj => ?_, fun j m hj hm hjm b o o' e1 e2 => ?_, fun j hj o e => ?_, hg.1, by simp [World.setCell]; omega⟩
  · by_cases e : j = i
    · subst e; simp [upd]
    · simp [upd, e]
  · by_cases e : j = i
    · subst e; rw [upd_same, upd_same, upd_same]; exact hown.other hneA _
    · rw [upd_other e, upd_other e, upd_other e]
      refine Own.other ((h.row j hj).block fun b o eb => hblk b (hlt j hj b o eb) fun o' e2 => h.dis j i hj hi e b o o' eb e2) (h.ne j hj) _
  · by_cases e3 : j = i
    · subst e3
      rw [upd_same] at e1
      rw [upd_other (fun e => hjm e.symm)] at e2
      rcases hloc b o e1 with h1 | ⟨o2, h1⟩
      · have := hlt m hm b o' e2; omega
      · exact h.dis j m hj hm hjm b o2 o' h1 e2
    · rw [upd_other e3] at e1
      by_cases e4 : m = i
      · subst e4
        rw [upd_same] at e2
        rcases hloc b o' e2 with h1 | ⟨o2, h1⟩
        · have := hlt j hj b o e1; omega
        · exact h.dis m j hm hj (fun e => hjm e.symm) b o2 o h1 e1
      · rw [upd_other e4] at e2
        exact h.dis j m hj hm hjm b o o' e1 e2
  · by_cases e3 : j = i
    · subst e3; rw [upd_same] at e; exact hneA o e
    · rw [upd_other e3] at e; exact h.ne j hj o e
/-- .. one that a call has made. -/
theorem Otb.store (h : Otb W base tb g R pa cp l) {i : Nat} (hi : i < R) (hb : Below W.heap.size W W2) {A2 : Option Addr} {c2 : Nat} {L2 : List Nat} (hown : Own W2 W.heap.size tb A2 c2 L2) (hbase : base ≤ W.heap.size) (n2 : Nat) (hn2 : n2 = L2.length) :
    Otb (W2.setCell ⟨g, i, none⟩ (.slice A2 n2 c2)) base tb g R (upd pa i A2) (upd cp i c2) (upd l i L2) :=
  h.turn hi hb.size (fun b hb1 _ => hb.block b hb1) (hown.base hbase) (fun b o e => .inl (by rw [e] at hown; exact hown.lt.1)) n2 hn2
/-- Rows that were appended one by one. -/
theorem GrowL.otb {w wr : World} {te : TypeId} {v : Value} (h : GrowL w wr te tb v R pa cp l) (hne : te ≠ tb) (hR : 0 < R) : ∃ g c, v = .slice (some ⟨g, 0, none⟩) R c ∧ R ≤ c ∧ Otb wr w.heap.size tb g R pa cp l := by
  obtain ⟨g, c, hv, hc, hg1, hg2, hcell⟩ := h.cell hR
  refine ⟨g, c, hv, hc, ⟨fun i hi => hcell i hi, h.row, h.dis, fun i hi o e => ?_, hg1, hg2⟩⟩
  have h1 := h.row i hi
  rw [e] at h1
  refine tag_ne h.own h1 hne ?_
  rw [hv]; rfl
end
/-- 'append' onto a row of one's own; where the answer lies. -/
theorem run_app_at {P : Program} {w : World} (t ty : TypeId) (base : Nat) (e : TypeId) (i : TypeInfo) (z : Value) (ht : P.underlying t = some (.slice e)) (hi : P.info? e = some i) (hz : i.zero = some z)
    (hsize : i.size = 1) (hby : i.bytes = 1) (hzs : z.cells.size = 1)
    (A : Option Addr) (n c : Nat) (l : List Nat) (hn : n = l.length) (hown : Own w base e A c l)
    (B : Nat) (ad : Addr) (m c' : Nat) (l' : List Nat) (hm : m = l'.length) (hr : Sl w B (some ad) l')
    (hbytes : l.length + l'.length ≤ 140737488355328) (hbase : base ≤ w.heap.size) :
    ∃ A2 c2 w', (Builtin.append_ #[t, t] ty #[.slice A n c, .slice (some ad) m c']).run P w = .ok (.slice A2 (l ++ l').length c2) w' ∧ Own w' base e A2 c2 (l ++ l') ∧ w.grownBy w' (Value.slice A n c).ownBlock ∧
      ∀ b o, A2 = some ⟨b, o, none⟩ → w.heap.size ≤ b ∨ ∃ o', A = some ⟨b, o', none⟩ := by
  subst hn hm
  obtain ⟨v', w', hrun, h2, h3, _, h4⟩ := run_append_own_at (P := P) w base t ty e i z 1 1 ht hi hz hsize hby hzs (by omega) _ _ _ hown.1 ad l'.length c' (bys l') (by rw [bys_len, Nat.mul_one]) (fun j u hj => by
    obtain ⟨y, hy, rfl⟩ := bys_get hj
    obtain ⟨_, b, off, hb, _, hcell⟩ := hr j y hy
    injection hb with hb
    subst hb
    rw [addr_add]; exact hcell) (bys_one l') (by simp only [maxLen]; omega) (by omega) hbase
  rw [← bys_app] at h2
  obtain ⟨A2, c2, hv, ho2⟩ := Own.mk' h2 (hown.2.append hr.bb)
  subst hv
  refine ⟨A2, c2, w', hrun, ho2, h3, fun b o e => ?_⟩
  subst e
  rcases h4 with h4 | h4
  · right
    cases A with
    | none => simp [Value.ownBlock] at h4
    | some a =>
      obtain ⟨b', o', sp⟩ := a
      rcases hown.1.2 with ⟨hv, _⟩ | ⟨g2, cap, cur, hv, _⟩
      · injection hv with h1; cases h1
      · injection hv with h1
        injection h1 with h1
        injection h1 with h2 h3 h5
        subst h2 h3 h5
        simp [Value.ownBlock] at h4
        exact ⟨0, by rw [h4]⟩
  · left
    simp [Value.ownBlock] at h4
    omega
theorem step_app_at {P : Program} {w : World} {ops : Array Oper} {o : Oper} {a : Act} {K : Act → World → Prop} {Q : Exit → Act → World → Prop} {E : Prop} (hgd : o.guard = none) (s x : Operand) (t : TypeId)
    (ho : o.op = .call { callee := .builtin .append, args := #[s, x], argTypes := #[t, t] })
    (base : Nat) (e : TypeId) (i : TypeInfo) (z : Value) (ht : P.underlying t = some (.slice e)) (hi : P.info? e = some i) (hz : i.zero = some z)
    (hsize : i.size = 1) (hby : i.bytes = 1) (hzs : z.cells.size = 1)
    (A : Option Addr) (n c : Nat) (l : List Nat) (hs : a.eval s = .slice A n c) (hn : n = l.length) (hown : Own w base e A c l)
    (B : Nat) (ad : Addr) (m c' : Nat) (l' : List Nat) (hx : a.eval x = .slice (some ad) m c') (hm : m = l'.length) (hr : Sl w B (some ad) l')
    (hbytes : l.length + l'.length ≤ 140737488355328) (hbase : base ≤ w.heap.size)
    (h : ∀ A2 c2 w', Own w' base e A2 c2 (l ++ l') → w.grownBy w' (Value.slice A n c).ownBlock → (∀ b o, A2 = some ⟨b, o, none⟩ → w.heap.size ≤ b ∨ ∃ o', A = some ⟨b, o', none⟩) → K (a.put o.dst (.slice A2 (l ++ l').length c2)) w') :
    if Region.wanted o (yielded ops a.tmps) = true then Oper.wp P o a w K Q else E := by
  have hw : Region.wanted o (yielded ops a.tmps) = true := by simp [Region.wanted, hgd]
  rw [if_pos hw]
  obtain ⟨A2, c2, w', hrun, h2, h3, h4⟩ := run_app_at (P := P) t o.type base e i z ht hi hz hsize hby hzs A n c l hn hown B ad m c' l' hm hr hbytes hbase
  unfold Oper.wp execOp
  simp only [ho, resolve, invoke, builtin, Sem.run_bind, Sem.run_pure, Result.andThen_ok, List.map_toArray, List.map_cons, List.map_nil, hs, hx, hrun]
  exact h A2 c2 w' h2 h3 h4
theorem Own.at0 {w : World} {base n c b : Nat} {e : TypeId} {A : Option Addr} {l : List Nat} (h : Own w base e A c l) (hb : (Value.slice A n c).ownBlock = some b) : A = some ⟨b, 0, none⟩ := by
  rcases h.1.2 with ⟨hv, _⟩ | ⟨g, cap, cur, hv, _⟩
  · injection hv with h1; subst h1; cases hb
  · injection hv with h1
    subst h1
    simp [Value.ownBlock] at hb
    rw [hb]
/-- Row i, onto which bytes were appended, is stored. -/
theorem Otb.app {W W2 : World} {base g R : Nat} {tb : TypeId} {pa : Nat → Option Addr} {cp : Nat → Nat} {l : Nat → List Nat} (h : Otb W base tb g R pa cp l) {i : Nat} (hi : i < R) (ob : Obj) {n : Nat}
    (hgr : ((W.alloc ob).drew).grownBy W2 (Value.slice (pa i) n (cp i)).ownBlock) {A2 : Option Addr} {c2 : Nat} {L2 : List Nat} (hown : Own W2 base tb A2 c2 L2)
    (hloc : ∀ b o, A2 = some ⟨b, o, none⟩ → (W.alloc ob).drew.heap.size ≤ b ∨ ∃ o', pa i = some ⟨b, o', none⟩) :
    W2.cell? ⟨g, i, none⟩ = some (.slice (pa i) (l i).length (cp i)) ∧ W2.frozen? ⟨g, i, none⟩ = false ∧
    ∀ n2, n2 = L2.length → Otb (W2.setCell ⟨g, i, none⟩ (.slice A2 n2 c2)) base tb g R (upd pa i A2) (upd cp i c2) (upd l i L2) ∧ Below base W (W2.setCell ⟨g, i, none⟩ (.slice A2 n2 c2)) := by
  have hsz : (W.alloc ob).drew.heap.size = W.heap.size + 1 := by show (W.alloc ob).heap.size = _; rw [World.size_alloc]
  have hold : ∀ b, b < W.heap.size → (W.alloc ob).drew.heap[b]? = W.heap[b]? := fun b hb => by
    show (W.alloc ob).heap[b]? = _
    exact Below.heap_alloc _ _ _ hb
  have hblk : ∀ b, b < W.heap.size → (∀ o, pa i ≠ some ⟨b, o, none⟩) → W2.heap[b]? = W.heap[b]? := fun b hb hne =>
    (hgr.block b (by omega) (fun e => hne 0 ((h.row i hi).at0 e.symm))).trans (hold b hb)
  have hgb := hblk g h.glo.2 (h.ne i hi)
  refine ⟨(World.cell?_of_block (w := W) (a := ⟨g, i, none⟩) hgb).trans (h.out i hi).1, (World.frozen?_of_block (w := W) (a := ⟨g, i, none⟩) hgb).trans (h.out i hi).2, fun n2 hn2 => ⟨?_, ?_⟩⟩
  · refine h.turn hi (by have := hgr.size; omega) hblk hown (fun b o e => ?_) n2 hn2
    rcases hloc b o e with h1 | h1
    · left; omega
    · exact .inr h1
  · have hb : Below base W W2 := by
      refine ⟨hgr.os, hgr.tape, hgr.output, by have := hgr.size; omega, fun b hb => ?_⟩
      have := h.glo
      exact hblk b (by omega) fun o e => by have h1 := h.row i hi; rw [e] at h1; have := h1.lt.1; omega
    exact hb.setCell (p := ⟨g, i, none⟩) h.glo.1 _
end Gw
end
section
/- Predicates over a value and a world that growth bears: rows, rows of one's own, rows that were appended one by one; params in a box. -/
namespace Gt
open Go
theorem ok_load {P : Program} {w : World} {V : Value → World → Prop} {o : Oper} {ρ : Operand → Value} {t : TypeId} {x : Operand} {u v : Value} (ho : o.op = .load t x) (hx : ρ x = u) (hr : (Instr.loadAt t u).run P w = .ok v w) (hv : V v w) : StepOK P Gr V w ((execOp ρ o).run P w) := by
  refine ok_run ?_ hv
  obtain ⟨dst, op, ty, pos, after, guard⟩ := o
  simp only at ho
  subst ho
  simp only [execOp, hx, Sem.run_bind, hr, Result.andThen_ok, Sem.run_pure]
end Gt
namespace Go.Proofs.Ytaknffdokkfmgaa
open Go.RowKit Go.Shelf Gw Pol
/-- A row of n bytes l of one's own, from block base on. -/
def OIs (base n : Nat) (l : List Nat) : Value → World → Prop := fun v w => ∃ A c, v = .slice A n c ∧ Gw.Own w base 5 A c l
theorem OIs.mono (base n : Nat) (l : List Nat) : Gt.Mono (OIs base n l) := by
  rintro v w w' ⟨A, c, h1, h2⟩ hg
  exact ⟨A, c, h1, h2.kept hg⟩
/-- A row of n bytes l. -/
def NIs (n : Nat) (l : List Nat) : Value → World → Prop := fun v w => ∃ A c, v = .slice A n c ∧ In w w.heap.size A c l
theorem NIs.mono (n : Nat) (l : List Nat) : Gt.Mono (NIs n l) := by
  rintro v w w' ⟨A, c, h1, h2⟩ hg
  exact ⟨A, c, h1, (h2.below hg).more (Below.size hg)⟩
theorem growL_kept {w0 w w' : World} {te tb : TypeId} {v : Value} {k : Nat} {pa : Nat → Option Addr} {cp : Nat → Nat} {l : Nat → List Nat} (h : GrowL w0 w te tb v k pa cp l) (hb : Below w.heap.size w w') : GrowL w0 w' te tb v k pa cp l :=
  ⟨h.own2 hb, fun i hi => (h.row i hi).kept hb, h.dis, h.bel.trans (hb.mono h.bel.size)⟩
/-- R rows l that were appended one by one, from block base on. -/
def GIs (base R : Nat) (l : Nat → List Nat) : Value → World → Prop := fun v w => ∃ w0 pa cp, base ≤ (World.heap w0).size ∧ GrowL w0 w 28 5 v R pa cp l
theorem GIs.mono (base R : Nat) (l : Nat → List Nat) : Gt.Mono (GIs base R l) := by
  rintro v w w' ⟨w0, pa, cp, h1, h2⟩ hg
  exact ⟨w0, pa, cp, h1, growL_kept h2 hg⟩
/-- Params in a box. -/
structure Pbx (w : World) (b : Nat) (N T K E R : Int) : Prop where
  c0 : w.cell? ⟨b, 0, none⟩ = some (.int .i64 N)
  c1 : w.cell? ⟨b, 1, none⟩ = some (.int .i64 T)
  c2 : w.cell? ⟨b, 2, none⟩ = some (.int .i64 K)
  c3 : w.cell? ⟨b, 3, none⟩ = some (.int .i64 E)
  c4 : w.cell? ⟨b, 4, none⟩ = some (.int .i64 R)
theorem Pbx.new (w : World) (t : TypeId) (N T K E R : Int) : Pbx (w.alloc (.cells #[.int .i64 N, .int .i64 T, .int .i64 K, .int .i64 E, .int .i64 R] t)) w.heap.size N T K E R :=
  ⟨World.cell?_alloc_new w _ t 0, World.cell?_alloc_new w _ t 1, World.cell?_alloc_new w _ t 2, World.cell?_alloc_new w _ t 3, World.cell?_alloc_new w _ t 4⟩
theorem Pbx.block {w w' : World} {b : Nat} {N T K E R : Int} (h : Pbx w b N T K E R) (hb : w'.heap[b]? = w.heap[b]?) : Pbx w' b N T K E R :=
  ⟨(World.cell?_of_block (w := w) (a := ⟨b, 0, none⟩) hb).trans h.c0, (World.cell?_of_block (w := w) (a := ⟨b, 1, none⟩) hb).trans h.c1, (World.cell?_of_block (w := w) (a := ⟨b, 2, none⟩) hb).trans h.c2, (World.cell?_of_block (w := w) (a := ⟨b, 3, none⟩) hb).trans h.c3, (World.cell?_of_block (w := w) (a := ⟨b, 4, none⟩) hb).trans h.c4⟩
theorem Pbx.below {w w' : World} {b n : Nat} {N T K E R : Int} (h : Pbx w b N T K E R) (hb : Below n w w') (hn : b < n) : Pbx w' b N T K E R := h.block (hb.block b hn)
theorem Pbx.lt {w : World} {b : Nat} {N T K E R : Int} (h : Pbx w b N T K E R) : b < w.heap.size := cell_lt h.c0
/-- The whole of it is read. -/
theorem Pbx.load {w : World} {b : Nat} {N T K E R : Int} (h : Pbx w b N T K E R) : (Instr.loadAt 23 (.pointer (some ⟨b, 0, none⟩))).run Try.prog w = .ok (pv N T K E R) w := by
  obtain ⟨c0, c1, c2, c3, c4⟩ := h
  go_simp
end Go.Proofs.Ytaknffdokkfmgaa
end
section
/- What the definition's own Xor (package shamrockref10) does. -/
namespace Go.Proofs.Ytaknffdokkfmgaa
open Go.RowKit Go.Shelf Gw Pol
/-- Two rows together. -/
def xorL (a b : List Nat) : List Nat := (List.range a.length).map fun i => co a i ^^^ co b i
theorem xorL_len (a b : List Nat) : (xorL a b).length = a.length := by simp [xorL]
theorem xorL_co {a b : List Nat} {i : Nat} (h : i < a.length) : co (xorL a b) i = co a i ^^^ co b i := by simp [co, xorL, h]
def xorP (a b : List Nat) (q : Nat) : List Nat := (List.range a.length).map fun i => if i < q then co a i ^^^ co b i else co a i
theorem xorP_len (a b : List Nat) (q : Nat) : (xorP a b q).length = a.length := by simp [xorP]
theorem xorP_zero (a b : List Nat) : xorP a b 0 = a := by
  apply List.ext_getElem
  · simp [xorP]
  · intro i h1 h2; simp [xorP, co_get h2]
theorem xorP_co {a b : List Nat} {q : Nat} (h : q < a.length) : co (xorP a b q) q = co a q := by simp [co, xorP, h]
theorem xorP_set {a b : List Nat} {q : Nat} : (xorP a b q).set q (co a q ^^^ co b q) = xorP a b (q + 1) := by
  apply List.ext_getElem
  · simp [xorP]
  · intro j h1 h2
    simp only [xorP, List.getElem_set, List.getElem_map, List.getElem_range]
    by_cases hj : q = j
    · subst hj; simp
    · rw [if_neg hj]
      by_cases h3 : j < q
      · rw [if_pos h3, if_pos (by omega)]
      · rw [if_neg h3, if_neg (by omega)]
theorem xorP_done {a b : List Nat} {q : Nat} (h : a.length ≤ q ∨ b.length ≤ q) : xorP a b q = xorL a b := by
  apply List.ext_getElem
  · simp [xorP, xorL]
  · intro j h1 h2
    simp only [xorP, xorL, List.getElem_map, List.getElem_range]
    by_cases hj : j < q
    · rw [if_pos hj]
    · rw [if_neg hj]
      have : j < a.length := by simpa [xorP] using h1
      rw [co_far (p := b) (by omega)]; simp
def XorRel (w : World) (A : Option Addr) (c : Nat) (a b : List Nat) (i : Value) (wr : World) : Prop :=
  ∃ q : Nat, q ≤ a.length ∧ q ≤ b.length ∧ i = .int .i64 (q : Int) ∧ Gw.Own wr w.heap.size 5 A c (xorP a b q) ∧ Below w.heap.size w wr
set_option maxRecDepth 100000 in
set_option maxHeartbeats 1000000 in
theorem rxor_any (A A' : Option Addr) (c c' n m : Nat) (a b : List Nat) (hn : n = a.length) (hm : m = b.length) (w : World) (hI : In w w.heap.size A c a) (hI' : In w w.heap.size A' c' b) (hnb : n ≤ 140737488355328) :
    Calls Try.prog 35 #[.slice A n c, .slice A' m c'] w fun e w' => ∃ A2 c2, e = .returned (.slice A2 n c2) ∧ Gw.Own w' w.heap.size 5 A2 c2 (xorL a b) ∧ Below w.heap.size w w' := by
  obtain ⟨i0, hi0, hz0, hz1, hz2⟩ := info_parts byte_info
  have HN := Lib.hid hn
  have HM := Lib.hid hm
  clear hn hm
  have HO0 := Lib.hid (Own.lit0 w w.heap.size 5 (Nat.le_refl _))
  have HSA := Lib.hid (hI.sl.alloc (Nat.le_refl _) (.cells #[] 5))
  have hnil := hI.none_
  go_enter Try.func35, Try.ntmps35
  go_wp2_with (first | (at_builtin; refine wpList_app rfl (.tmp 7) (.tmp 8) 28 rfl w.heap.size 5 i0 _ Try.underlying28 hi0 hz0 hz1 hz2 rfl (some ⟨w.heap.size, 0, none⟩) 0 0 [] rfl rfl HO0.out w.heap.size A n c a rfl HN.out hnil HSA.out (by rw [← HN.out]; simp; omega) (by rw [World.size_alloc]; omega) ?_; intro A2 c2 w2 hown2 hgr2; rw [List.nil_append] at hown2; rw [List.nil_append, ← HN.out]) | fail)
  have hB2 : Below w.heap.size w w2 := below_lit' (Below.refl _ _) (Nat.le_refl _) hgr2
  have hO2 : Gw.Own w2 w.heap.size 5 A2 c2 (xorP a b 0) := by rw [xorP_zero]; exact hown2
  clear hown2 hgr2 HO0 HSA
  go_loopw [6] (XorRel w A2 c2 a b) (fun i _ => n - (intOf i).toNat)
  case atStart => exact ⟨0, Nat.zero_le _, Nat.zero_le _, rfl, hO2, hB2⟩
  case round =>
    clear hO2 hB2
    obtain ⟨q, hq1, hq2, rfl, hown, hbr⟩ := hrel
    rw [← HN.out] at hq1
    rw [← HM.out] at hq2
    by_cases h1 : q < n
    · by_cases h2 : q < m
      · obtain ⟨y, b', off', hy, hyb, hA', hb', hcy⟩ := (hI'.below hbr).sl.at_ (k := q) (by rw [← HM.out]; exact h2)
        subst hA'
        obtain ⟨g, hA2, hgb, hput⟩ := hown.store (k := q) (by rw [xorP_len, ← HN.out]; exact h1)
        subst hA2
        have hc0 := hown.cell (k := q) (by rw [xorP_len, ← HN.out]; exact h1)
        rw [xorP_co (by rw [← HN.out]; exact h1)] at hc0
        have hf0 := hown.frozen q
        obtain ⟨x, hx⟩ : ∃ x, x = co a q := ⟨_, rfl⟩
        have hxb : x < 256 := by rw [hx]; exact hI.bb.co q
        rw [← hx] at hc0
        have hxor : bits .xor .u8 (x : Int) (y : Int) = ((x ^^^ y : Nat) : Int) := u8_xor_nat x y hxb hyb
        have HS := Lib.hid (hput (x ^^^ y) (Nat.xor_lt_two_pow (n := 8) hxb hyb))
        have HXY := Lib.hid (show x ^^^ y = co a q ^^^ co b q by rw [hx, co_of' hy])
        have HB3 := Lib.hid (hbr.setCell (p := ⟨g, q, none⟩) hgb (.int .u8 ((x ^^^ y : Nat) : Int)))
        have hcap := hown.cap
        rw [xorP_len, ← HN.out] at hcap
        have hcap' := hI'.cap
        rw [← HM.out] at hcap'
        clear hy hx hput hown
        go_wp2
        go_still_tail 12, (by kernel_rfl)
        change wpList _ _ _ _ _ wr.drew
        go_wp2
        go_roundw
        case rel => exact ⟨q + 1, by rw [← HN.out]; omega, by rw [← HM.out]; omega, by go_num, by have h3 := HS.out; rw [HXY.out, xorP_set] at h3; rw [HXY.out]; exact h3, ⟨HB3.out.os, HB3.out.tape, HB3.out.output, HB3.out.size, HB3.out.block⟩⟩
        case measure => simp [intOf]; omega
      · have HO := Lib.hid (show Gw.Own wr w.heap.size 5 A2 c2 (xorL a b) by rw [← xorP_done (a := a) (b := b) (q := q) (.inr (by rw [← HM.out]; omega))]; exact hown)
        clear hown
        go_wp2
        go_ret
        exact ⟨_, _, rfl, HO.out, hbr⟩
    · have HO := Lib.hid (show Gw.Own wr w.heap.size 5 A2 c2 (xorL a b) by rw [← xorP_done (a := a) (b := b) (q := q) (.inl (by rw [← HN.out]; omega))]; exact hown)
      clear hown
      go_wp2
      go_ret
      exact ⟨_, _, rfl, HO.out, hbr⟩
end Go.Proofs.Ytaknffdokkfmgaa
end
section
/- deal: Sum. -/
namespace Go.Proofs.Ytaknffdokkfmgaa
open Go.RowKit Go.Shelf Gw Pol
def xo (a b : List Nat) (i : Nat) : Nat := co a i ^^^ co b i
theorem dsum_no (A B : Option Addr) (c c' n m : Nat) (a b : List Nat) (_hn : n = a.length) (_hm : m = b.length) (hnm : n ≠ m) (w : World) (_hI : In w w.heap.size A c a) (_hI' : In w w.heap.size B c' b) (_hnb : n ≤ 140737488355328) (_hmb : m ≤ 140737488355328) :
    Calls Try.prog 36 #[.slice A n c, .slice B m c'] w fun e w' => ∃ A2 c2, e = .returned (.tuple #[.slice A2 0 c2, .bool false]) ∧ Below w.heap.size w w' := by
  have b1 : ((n : Int) != (m : Int)) = true := by rw [bne_iff_ne]; omega
  go_enter Try.func36, Try.ntmps36
  go_wp2
  go_ret2
  exact ⟨_, _, rfl, Below.refl _ _⟩
def SumRel (w : World) (a b : List Nat) (n : Nat) (i : Value) (wr : World) : Prop :=
  ∃ q : Nat, q ≤ n ∧ i = .int .i64 (q : Int) ∧ Gw.Own wr w.heap.size 5 (some ⟨w.heap.size, 0, none⟩) n (fp (xo a b) n q) ∧ Below w.heap.size w wr
set_option maxRecDepth 100000 in
set_option maxHeartbeats 1000000 in
theorem dsum_yes (A B : Option Addr) (c c' n : Nat) (a b : List Nat) (hn : n = a.length) (hm : n = b.length) (w : World) (hI : In w w.heap.size A c a) (hI' : In w w.heap.size B c' b) (hnb : n ≤ 140737488355328) :
    Calls Try.prog 36 #[.slice A n c, .slice B n c'] w fun e w' => ∃ A2 c2, e = .returned (.tuple #[.slice A2 n c2, .bool true]) ∧ In w' w'.heap.size A2 c2 (xorL a b) ∧ Below w.heap.size w w' := by
  have hmk := run_make_row' (P := Try.prog) 28 5 (.int .u8 0) 1 Try.underlying28 pbyte_info rfl .i64 .i64 n (by omega) (by omega)
  have b1 : ((n : Int) != (n : Int)) = false := by simp
  have HN := Lib.hid hn
  have HM := Lib.hid hm
  clear hn hm
  have hO := Own.made w 5 n (by omega)
  rw [← fp_zero (xo a b) n] at hO
  have hb1 : Below w.heap.size w (w.alloc (.cells (madeCells #[.int .u8 0] n) 5)) := (Below.refl _ w).alloc (Nat.le_refl _) _
  have hcap := hI.cap
  have hcap' := hI'.cap
  rw [← HN.out] at hcap
  rw [← HM.out] at hcap'
  go_enter Try.func36, Try.ntmps36
  go_wp2
  clear hmk b1
  go_loopw [18] (SumRel w a b n) (fun i _ => n - (intOf i).toNat)
  case atStart => exact ⟨0, Nat.zero_le _, rfl, hO, hb1⟩
  case round =>
    clear hO hb1
    obtain ⟨q, hq, rfl, hown, hbr⟩ := hrel
    by_cases hlt : q < n
    · obtain ⟨x, b1, o1, hx, hxb, hA, _, hcx⟩ := (hI.below hbr).sl.at_ (k := q) (by rw [← HN.out]; exact hlt)
      obtain ⟨y, b2, o2, hy, hyb, hB, _, hcy⟩ := (hI'.below hbr).sl.at_ (k := q) (by rw [← HM.out]; exact hlt)
      subst hA hB
      have hc := hown.cell (k := q) (by rw [fp_len]; exact hlt)
      have hf := hown.frozen q
      have hxor : bits .xor .u8 (x : Int) (y : Int) = ((x ^^^ y : Nat) : Int) := u8_xor_nat x y hxb hyb
      have HO := Lib.hid (hown.put (k := q) (by rw [fp_len]; exact hlt) (y := x ^^^ y) (Nat.xor_lt_two_pow (n := 8) hxb hyb))
      rw [fp_set (f := xo a b) (by unfold xo; rw [co_of' hx, co_of' hy])] at HO
      have HB := Lib.hid (hbr.setCell (p := ⟨w.heap.size, q, none⟩) (Nat.le_refl _) (.int .u8 ((x ^^^ y : Nat) : Int)))
      clear hown hx hy
      go_wp2
      go_still_tail 12, (by kernel_rfl)
      change wpList _ _ _ _ _ wr.drew
      go_wp2
      go_roundw
      case rel => exact ⟨q + 1, by omega, by go_num, HO.out, ⟨HB.out.os, HB.out.tape, HB.out.output, HB.out.size, HB.out.block⟩⟩
      case measure => simp [intOf]; omega
    · obtain rfl : q = n := by omega
      rw [fp_all] at hown
      have HO := Lib.hid (show In wr wr.heap.size (some ⟨w.heap.size, 0, none⟩) q (xorL a b) by
        have h := hown.inn
        unfold xorL
        rw [← HN.out]
        exact h)
      clear hown
      go_wp2
      go_ret2
      exact ⟨_, _, rfl, HO.out, hbr⟩
end Go.Proofs.Ytaknffdokkfmgaa
end
section
/- 'copy' into a row of the call's own, from any place on; what a round of a range leaves as it was. -/
namespace Gw
open Go Go.RowKit Go.Shelf Pol
theorem run_copy_into {P : Program} {w : World} (t ty e : TypeId) (hu : P.underlying t = some (.slice e)) (hs : (P.info? e).map (·.size) = some 1) {base g n : Nat} {l : List Nat} (hown : Own w base e (some ⟨g, 0, none⟩) n l)
    (o dl dc : Nat) (hod : o + dl ≤ l.length) {A : Option Addr} {B : Nat} {p : List Nat} (m c : Nat) (hp : Sl w B A p) (hm : m = p.length) :
    ∃ w2, (Builtin.copy_ #[t, t] ty #[.slice (some ⟨g, o, none⟩) dl dc, .slice A m c]).run P w = .ok (.int .i64 (min m dl : Nat)) w2 ∧
      Own w2 base e (some ⟨g, 0, none⟩) n (l.take o ++ (p.take dl ++ l.drop (o + min m dl))) ∧ w.grownBy w2 (some g) := by
  subst hm
  have hpl : (p.take dl).length = min p.length dl := by rw [List.length_take]; omega
  have hpb : BB (p.take dl) := fun x hx => hp.bb x (List.mem_of_mem_take hx)
  by_cases h0 : min p.length dl = 0
  · have hr := run_copy_none (P := P) w t t ty e (some ⟨g, o, none⟩) A dl dc p.length c hu hs h0
    refine ⟨w, hr.trans (by rw [h0]; rfl), ?_, World.grownBy.refl w _⟩
    rw [h0] at hpl ⊢
    rw [List.eq_nil_of_length_eq_zero hpl, List.nil_append, Nat.add_zero, List.take_append_drop]
    exact hown
  · obtain ⟨x, b, off, hx, _, rfl, _, _⟩ := hp.at_ (k := 0) (by omega)
    rcases hown.1.2 with ⟨hv, _⟩ | ⟨g', cap, cur, hv, hb, hg, h1, h2, h3, h4⟩
    · injection hv with h; cases h
    injection hv with e1 _ e3
    injection e1 with e1
    injection e1 with e1
    subst e1 e3
    rw [Nat.mul_one] at h3 h4
    have hr := run_copy_row (P := P) w t t ty e g o dl dc ⟨b, off, none⟩ p.length c cur e (bys (p.take dl)) hu hs hg (by rw [bys_len, hpl]) (fun j v hj => by
      obtain ⟨y, hy, rfl⟩ := bys_get hj
      have hy' : p[j]? = some y := by
        have hjl := (List.getElem?_eq_some_iff.1 hy).1
        rw [List.getElem?_take, if_pos (by omega)] at hy
        exact hy
      obtain ⟨_, b', off', e', hb', hc'⟩ := hp j y hy'
      injection e' with e'
      injection e' with e1 e2
      subst e1 e2
      rw [addr_add]
      exact hc') (by rw [bys_len, hpl, h3]; omega) (bys_one _)
    rw [bys_len, hpl] at hr
    refine ⟨w.setRow g (cur.toList.take o ++ bys (p.take dl) ++ cur.toList.drop (o + min p.length dl)).toArray, hr, ?_, ⟨rfl, rfl, rfl, by simp [World.setRow], fun k _ hk => setRow_other w g k _ (fun e => hk (by rw [e]))⟩⟩
    have hcur : cur.toList = bys l ++ cur.toList.drop l.length := by rw [← h4, List.take_append_drop]
    have hbl := bys_len l
    have hnew : (cur.toList.take o ++ bys (p.take dl) ++ cur.toList.drop (o + min p.length dl)) = bys (l.take o ++ (p.take dl ++ l.drop (o + min p.length dl))) ++ cur.toList.drop l.length := by
      have t1 : cur.toList.take o = bys (l.take o) := by
        rw [hcur, List.take_append_of_le_length (by omega)]
        unfold bys; rw [List.map_take]
      have t2 : cur.toList.drop (o + min p.length dl) = bys (l.drop (o + min p.length dl)) ++ cur.toList.drop l.length := by
        conv => lhs; rw [hcur]
        rw [List.drop_append_of_le_length (by omega)]
        unfold bys; rw [List.map_drop]
      rw [t1, t2, bys_app, bys_app, List.append_assoc, List.append_assoc, List.append_assoc]
    have hlen : (l.take o ++ (p.take dl ++ l.drop (o + min p.length dl))).length = l.length := by
      simp only [List.length_append, List.length_take, List.length_drop]; omega
    refine ⟨⟨by rw [bys_len, Nat.mul_one], .inr ⟨g, n, _, by rw [hlen], hb, setRow_heap _ _ _ _ _ _ hg, by omega, h2, ?_, ?_⟩⟩, ?_⟩
    · have h5 := congrArg List.length hcur
      have h6 := congrArg List.length hnew
      simp only [List.length_append, bys_len, hlen] at h5 h6
      simp only [List.size_toArray, List.length_append, bys_len]
      simp only [Array.length_toList] at h5
      omega
    · rw [Nat.mul_one, hlen]
      show List.take l.length (_ ++ _ ++ _) = _
      rw [hnew]
      exact List.take_left' (by rw [bys_len, hlen])
    · exact BB.append (fun x hx => hown.2 x (List.mem_of_mem_take hx)) (BB.append hpb (fun x hx => hown.2 x (List.mem_of_mem_drop hx)))
/-- A row of one's own where what is turned is no cells. -/
theorem Own.turned {base c : Nat} {A B : World} {row : Option Nat} {e : TypeId} {ad : Option Addr} {l : List Nat} (hs : Own A base e ad c l) (hg : A.grownBy B row) (hr : ∀ r, row = some r → ∃ o : Obj, A.heap[r]? = some o ∧ o.isCells = false) : Own B base e ad c l := by
  refine ⟨⟨hs.1.1, ?_⟩, hs.2⟩
  rcases hs.1.2 with h0 | ⟨k, cap, cur, hv, h1, h2, h3⟩
  · exact .inl h0
  · refine .inr ⟨k, cap, cur, hv, h1, ?_, h3⟩
    refine (hg.block k (Array.getElem?_eq_some_iff.1 h2).1 (fun e => ?_)).trans h2
    obtain ⟨o, h4, h5⟩ := hr k e.symm
    rw [h2] at h4
    injection h4 with h4
    subst h4
    cases h5
theorem Row.turned {A B : World} {b n : Nat} {f : Nat → Value} {row : Option Nat} (hs : Row A b n f) (hg : A.grownBy B row) (hr : ∀ r, row = some r → ∃ o : Obj, A.heap[r]? = some o ∧ o.isCells = false) : Row B b n f := fun o ho =>
  ⟨cell_kept (hs o ho).1 hg hr, (frozen_kept (hs o ho).1 hg hr).trans (hs o ho).2⟩
theorem others_below {W X : World} (h : Below W.heap.size W X) : KeepsOthers W X := ⟨h.size, fun k _ hk _ => (h.block k (Array.getElem?_eq_some_iff.1 hk).1).trans hk⟩
theorem others_cells {X W' : World} {g : Nat} (ho : ∀ o, X.heap[g]? = some o → o.isCells = true) (h : X.grownBy W' (some g)) : KeepsOthers X W' := ⟨h.size, fun k o hk hc => by
  refine (h.block k (Array.getElem?_eq_some_iff.1 hk).1 (fun e => ?_)).trans hk
  injection e with e
  subst e
  have := ho o hk
  rw [this] at hc; cases hc⟩
theorem Own.cellsAt {w : World} {base g o c : Nat} {e : TypeId} {l : List Nat} (h : Own w base e (some ⟨g, o, none⟩) c l) : ∀ ob, w.heap[g]? = some ob → ob.isCells = true := fun ob hob => by
  rcases h.1.2 with ⟨hv, _⟩ | ⟨g', cap, cur, hv, _, hg, _⟩
  · injection hv with h; cases h
  · injection hv with e1
    injection e1 with e1
    injection e1 with e1
    subst e1
    rw [hob] at hg
    injection hg with hg
    rw [hg]; rfl
end Gw
end
section
/- What gf.double and gf.powers do: the double of a byte; the exponents below 255 one by one, each with that power of x + 1. -/
namespace Go.Proofs.Ytaknffdokkfmgaa
open Go.RowKit Go.Shelf
attribute [local go_sem] Oper.semAt_some

theorem dbl_hi : ∀ a : Nat, a < 256 → (bits BinOp.and IntKind.u8 (a : Int) 128 != 0) = true → bits BinOp.xor IntKind.u8 ((a : Int) * 2 % 256) 27 = (Gf.dbl a : Int) := by decide +kernel
theorem dbl_lo : ∀ a : Nat, a < 256 → (bits BinOp.and IntKind.u8 (a : Int) 128 != 0) = false → (a : Int) * 2 % 256 = (Gf.dbl a : Int) := by decide +kernel

theorem ret_int {k : IntKind} {a b : Int} (h : a = b) : Ending.returned (.int k a) = .returned (.int k b) := by rw [h]

set_option maxHeartbeats 400000 in
theorem double_any (a : Nat) (h : a < 256) (w : World) :
    Calls Try.prog 64 #[.int .u8 (a : Int)] w fun e w' => e = .returned (.int .u8 (Gf.dbl a : Int)) ∧ w = w' := by
  go_enter Try.func64, Try.ntmps64
  go_wp2
  · go_ret
    exact ⟨ret_int (dbl_hi a h (by assumption)), rfl⟩
  · go_ret
    exact ⟨ret_int (dbl_lo a h (by assumption)), rfl⟩

abbrev Idx := { i : Nat // i < 255 }
abbrev encs (x : Idx) : Array Value := #[.int .i64 (x.1 : Int), .int .u8 (Gf.pw x.1 : Int)]
def upto (k : Nat) (h : k ≤ 255) : List Idx := (List.range k).attach.map fun x => ⟨x.1, by have := List.mem_range.1 x.2; omega⟩
theorem upto_val (k : Nat) (h : k ≤ 255) : (upto k h).map (fun x => x.1) = List.range k := by simp [upto]
theorem upto_len (k : Nat) (h : k ≤ 255) : (upto k h).length = k := by simp [upto]
theorem upto_succ (k : Nat) (h : k + 1 ≤ 255) : upto (k + 1) h = upto k (by omega) ++ [⟨k, by omega⟩] := by
  have : ∀ l m : List Idx, l.map (fun x => x.1) = m.map (fun x => x.1) → l = m := fun l m e => List.map_inj_right (fun x y => Subtype.ext) |>.1 e
  apply this
  rw [List.map_append, upto_val, upto_val, List.range_succ]; rfl

set_option maxRecDepth 100000 in
set_option maxHeartbeats 1000000 in
/-- The powers come one by one. -/
theorem powers_stops (n : Nat) (hn : 1 ≤ n) (w : World) :
    SeqStopsK Fence.wide n Try.prog 45 #[] encs (fun _ _ => True) (fun xs => xs = upto 255 (Nat.le_refl _)) (fun _ => True) 255 w := fun l J Jx W _ _ _ hY h0 => by
  refine callsIn_of_wp Try.func45 rfl trivial ?_ rfl
  simp only [Try.ntmps45, List.size_toArray, List.length_cons, List.length_nil, Nat.reduceAdd, Nat.reduceSub, Array.replicate_succ, Array.replicate_zero, List.push_toArray, List.append_toArray, List.nil_append, List.cons_append]
  gi_wp2
  gi_loopw [2, 4] (fun p i wr => ∃ k : Nat, ∃ h : k ≤ 255, i = .int .i64 (k : Int) ∧ p = .int .u8 (Gf.pw k : Int) ∧ J (upto k h) wr)
    (fun _ i _ => 255 - (intOf i).toNat)
  case atStart => exact ⟨0, by omega, rfl, rfl, h0⟩
  case round =>
    obtain ⟨k, hk, rfl, rfl, hJs⟩ := hrel
    have hp := Gf.pw_lt k
    by_cases hlt : k < 255
    · obtain ⟨fn, tmps, assign, body, hy, hR⟩ := hY (upto k hk) ⟨k, hlt⟩ wr hJs (by rw [upto_len]; exact hlt)
      dsimp only [encs] at hy
      gi_wp2_with fail
      refine hR.mono ?_
      rintro e W3 (⟨rfl, hJ3, _⟩ | ⟨rfl, hJx3⟩)
      · gi_wp2_with fail
        refine ⟨trivial, ?_⟩
        refine (callsIn_wide.2 (double_any _ hp _)).mono ?_
        rintro e w' ⟨rfl, rfl⟩
        have hxr : bits .xor .u8 (Gf.pw k : Int) (Gf.dbl (Gf.pw k) : Int) = (Gf.pw (k + 1) : Int) := u8_xor_nat _ _ hp (Gf.dbl_lt_small _ hp)
        gi_wp2
        go_roundw
        case rel => exact ⟨k + 1, by omega, by go_num, rfl, by rw [upto_succ]; exact hJ3⟩
        case measure => simp [intOf]; omega
      · gi_wp2
        refine bodyPost_ret (results_none rfl _ _ _) rfl ?_
        exact ⟨⟨_, rfl⟩, .inr ⟨_, trivial, hJx3⟩⟩
    · obtain rfl : k = 255 := by omega
      gi_wp2
      go_end0
      exact ⟨⟨_, rfl⟩, .inl ⟨_, rfl, hJs⟩⟩

/-- What the table of powers, and of logarithms, holds when some exponents have come. -/
def exF (l : List Nat) (j : Nat) : Nat := if j ∈ l then Gf.pw j else 0
def lgF (l : List Nat) (a : Nat) : Nat := l.foldl (fun s i => if a = Gf.pw i then i else s) 0
theorem lgF_snoc (l : List Nat) (i a : Nat) : lgF (l ++ [i]) a = if a = Gf.pw i then i else lgF l a := by simp [lgF]
theorem lgF_range (k a : Nat) : lgF (List.range k) a = Gf.lgTo k a := by
  induction k with
  | zero => rfl
  | succ k ih => rw [List.range_succ, lgF_snoc, ih]; rfl
theorem exF_snoc_same (l : List Nat) (i : Nat) : exF (l ++ [i]) i = Gf.pw i := by simp [exF]
theorem exF_snoc_other (l : List Nat) (i j : Nat) (h : j ≠ i) : exF (l ++ [i]) j = exF l j := by simp [exF, h]

end Go.Proofs.Ytaknffdokkfmgaa
end
