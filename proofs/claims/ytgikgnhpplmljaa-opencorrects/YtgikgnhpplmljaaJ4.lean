import Derived.Orders
import Derived.StillTail
import Derived.Below
import Derived.BigCall
import Derived.Test.YtgikgnhpplmljaaProg
import Derived.Test.YtgikgnhpplmljaaJ1
import Derived.Test.YtgikgnhpplmljaaJ2
import Derived.Test.YtgikgnhpplmljaaJ3
section
/- Rows that a call appends one by one to rows of its own. -/
namespace Gw
open Go Go.RowKit Go.Shelf
theorem Own.row {w : World} {base : Nat} {e : TypeId} {g c : Nat} {l : List Nat} (h : Own w base e (some ⟨g, 0, none⟩) c l) : Row w g l.length (fun j => .int .u8 (Pol.co l j : Int)) := fun o ho => ⟨h.cell ho, h.frozen o⟩
/-- The values of k rows of n bytes. -/
def rvs (pa : Nat → Option Addr) (cp : Nat → Nat) (n k : Nat) : List Value := (List.range k).map fun i => Value.slice (pa i) n (cp i)
theorem rvs_len (pa : Nat → Option Addr) (cp : Nat → Nat) (n k : Nat) : (rvs pa cp n k).length = k := by simp [rvs]
/-- k rows have been appended: v holds them; row i lies at pa i. -/
structure Grow (w wr : World) (te tb : TypeId) (v : Value) (n k : Nat) (pa : Nat → Option Addr) (cp : Nat → Nat) (l : Nat → List Nat) : Prop where
  own : wr.ownsRow w.heap.size te 1 v k (rvs pa cp n k)
  row : ∀ i, i < k → Own wr w.heap.size tb (pa i) (cp i) (l i)
  dis : ∀ i j, i < k → j < k → i ≠ j → ∀ b o o', pa i = some ⟨b, o, none⟩ → pa j ≠ some ⟨b, o', none⟩
  bel : Below w.heap.size w wr
theorem Own.tag {w : World} {base : Nat} {e : TypeId} {b o c : Nat} {l : List Nat} (h : Own w base e (some ⟨b, o, none⟩) c l) : ∃ cur, w.heap[b]? = some (.cells cur e (0, 0)) := by
  rcases h.1.2 with ⟨hv, _⟩ | ⟨g, cap, cur, hv, _, hg, _⟩
  · injection hv with h1; cases h1
  · injection hv with h1
    injection h1 with h1
    injection h1 with h2
    subst h2
    exact ⟨cur, hg⟩
theorem tag_ne {w : World} {base k : Nat} {e e' : TypeId} {v : Value} {vs : List Value} {b o c : Nat} {l : List Nat} (h : w.ownsRow base e 1 v k vs) (h' : Own w base e' (some ⟨b, o, none⟩) c l) (hne : e ≠ e') : v.ownBlock ≠ some b := fun hb => by
  obtain ⟨cur, hc⟩ := h'.tag
  rcases h.2 with ⟨hv, _⟩ | ⟨g, cap, cur2, hv, _, hg, _⟩
  · subst hv; cases hb
  · subst hv
    simp [Value.ownBlock] at hb
    subst hb
    rw [hc] at hg
    injection hg with hg
    injection hg with _ h2
    exact hne h2.symm
theorem Grow.step {w wr w2 w3 : World} {te tb : TypeId} {v v' : Value} {n k : Nat} {pa : Nat → Option Addr} {cp : Nat → Nat} {l : Nat → List Nat} (h : Grow w wr te tb v n k pa cp l) (hne : te ≠ tb)
    {A2 : Option Addr} {c2 : Nat} (hb : Below wr.heap.size wr w2) (ho : Own w2 wr.heap.size tb A2 c2 (l k)) (o : Obj) (hown : w3.ownsRow w.heap.size te 1 v' (k + 1) (rvs pa cp n k ++ [.slice A2 n c2])) (hg : (w2.alloc o).grownBy w3 v.ownBlock) :
    Grow w w3 te tb v' n (k + 1) (fun i => if i = k then A2 else pa i) (fun i => if i = k then c2 else cp i) l := by
  have hs := h.bel.size
  have hs2 := hb.size
  have hown2 : w2.ownsRow w.heap.size te 1 v k (rvs pa cp n k) := by
    refine h.own.kept (row := none) ⟨hb.os, hb.tape, hb.output, hb.size, fun i hi _ => hb.block i hi⟩ ?_
    rcases h.own.2 with ⟨hv, _⟩ | ⟨g, cap, cur, hv, _⟩
    · subst hv; exact .inl rfl
    · subst hv; exact .inr (by simp [Value.ownBlock])
  have hvb : ∀ b, v.ownBlock = some b → w.heap.size ≤ b := fun b hb => (h.own.lt b hb).1
  have hkeep : ∀ {A : Option Addr} {c : Nat} {x : List Nat} {base : Nat}, base ≤ w2.heap.size → w.heap.size ≤ base → Own w2 base tb A c x → Own w3 base tb A c x := fun {A c x base} hb1 hb2 hO => by
    have hO1 := hO.alloc o
    refine ⟨hO1.1.kept hg ?_, hO.2⟩
    cases A with
    | none => exact .inl rfl
    | some a =>
      obtain ⟨b, of, sp⟩ := a
      rcases hO.1.2 with ⟨hv, _⟩ | ⟨g2, cap, cur, hv, _⟩
      · injection hv with h1; cases h1
      · injection hv with h1
        injection h1 with h1
        injection h1 with h2 h3 h4
        subst h2 h3 h4
        refine .inr fun e => tag_ne hown2 (hO.base hb2) hne ?_
        simp [Value.ownBlock] at e
        exact e.symm
  refine ⟨?_, fun i hi => ?_, fun i j hi hj hij b o o' e1 e2 => ?_, ?_⟩
  · have e : rvs pa cp n k ++ [.slice A2 n c2] = rvs (fun i => if i = k then A2 else pa i) (fun i => if i = k then c2 else cp i) n (k + 1) := by
      unfold rvs
      rw [List.range_succ, List.map_append]
      congr 1
      · refine List.map_congr_left fun i hi => ?_
        have := List.mem_range.1 hi
        simp only [if_neg (show i ≠ k by omega)]
      · simp
    rw [e] at hown
    exact hown
  · by_cases e : i = k
    · subst e
      simp only [if_true]
      exact (hkeep hs2 hs ho).base hs
    · simp only [if_neg e]
      exact hkeep (by omega) (Nat.le_refl _) ((h.row i (by omega)).kept hb)
  · by_cases e3 : i = k
    · subst e3
      have e4 : j ≠ i := fun e => hij e.symm
      simp only [if_true] at e1
      simp only [if_neg e4] at e2
      subst e1
      have h1 := (ho.1.lt b rfl).1
      have h2 := h.row j (by omega)
      rw [e2] at h2
      have := (h2.1.lt b rfl).2
      omega
    · simp only [if_neg e3] at e1
      have h1 := h.row i (by omega)
      rw [e1] at h1
      have h1 := (h1.1.lt b rfl).2
      by_cases e4 : j = k
      · subst e4
        simp only [if_true] at e2
        subst e2
        have := (ho.1.lt b rfl).1
        omega
      · simp only [if_neg e4] at e2
        exact h.dis i j (by omega) (by omega) hij b o o' e1 e2
  · refine (h.bel.trans (hb.mono hs)).trans ?_
    exact ((Below.refl w.heap.size w2).alloc (by omega) o).grown hg (by simp; omega) (fun b hb => hvb b hb)
theorem Grow.own2 {w wr w2 : World} {te tb : TypeId} {v : Value} {n k : Nat} {pa : Nat → Option Addr} {cp : Nat → Nat} {l : Nat → List Nat} (h : Grow w wr te tb v n k pa cp l) (hb : Below wr.heap.size wr w2) : w2.ownsRow w.heap.size te 1 v k (rvs pa cp n k) := by
  refine h.own.kept (row := none) ⟨hb.os, hb.tape, hb.output, hb.size, fun i hi _ => hb.block i hi⟩ ?_
  rcases h.own.2 with ⟨hv, _⟩ | ⟨g, cap, cur, hv, _⟩
  · subst hv; exact .inl rfl
  · subst hv; exact .inr (by simp [Value.ownBlock])
theorem Grow.start (w : World) (te tb : TypeId) (n : Nat) (l : Nat → List Nat) : Grow w w te tb (.slice none 0 0) n 0 (fun _ => none) (fun _ => 0) l :=
  ⟨World.ownsRow_nil w _ te 1, fun i hi => by omega, fun i j hi => by omega, Below.refl _ _⟩
theorem Grow.shape {w wr : World} {te tb : TypeId} {v : Value} {n k : Nat} {pa : Nat → Option Addr} {cp : Nat → Nat} {l : Nat → List Nat} (h : Grow w wr te tb v n k pa cp l) : ∃ A c, v = .slice A k c ∧ k ≤ c ∧ (A = none → c = 0) := by
  rcases h.own.2 with ⟨hv, h0⟩ | ⟨g, cap, cur, hv, _, _, h1, _⟩
  · subst hv; exact ⟨none, 0, by rw [h0], by omega, fun _ => rfl⟩
  · subst hv; exact ⟨_, cap, rfl, h1, fun h => by cases h⟩
theorem Grow.cell {w wr : World} {te tb : TypeId} {v : Value} {n k : Nat} {pa : Nat → Option Addr} {cp : Nat → Nat} {l : Nat → List Nat} (h : Grow w wr te tb v n k pa cp l) {i : Nat} (hi : i < k) :
    ∃ g c, v = .slice (some ⟨g, 0, none⟩) k c ∧ k ≤ c ∧ w.heap.size ≤ g ∧ g < wr.heap.size ∧ ∀ j, j < k → wr.cell? ⟨g, j, none⟩ = some (.slice (pa j) n (cp j)) ∧ wr.frozen? ⟨g, j, none⟩ = false := by
  rcases h.own.2 with ⟨hv, h0⟩ | ⟨g, cap, cur, hv, hb, hg, h1, _⟩
  · omega
  · subst hv
    refine ⟨g, cap, rfl, h1, hb, (Array.getElem?_eq_some_iff.1 hg).1, fun j hj => ⟨?_, h.own.frozenAt j⟩⟩
    rw [h.own.cellAt j (by omega)]
    simp [rvs, hj]
/-- As a table. -/
theorem Grow.tab {w wr : World} {te tb : TypeId} {v : Value} {n R : Nat} {pa : Nat → Option Addr} {cp : Nat → Nat} {l : Nat → List Nat} (h : Grow w wr te tb v n R pa cp l) (hne : te ≠ tb) (hR : 0 < R) (hn : 0 < n) (hl : ∀ i, i < R → (l i).length = n) :
    ∃ g c bs, v = .slice (some ⟨g, 0, none⟩) R c ∧ R ≤ c ∧ Tab wr w.heap.size wr.heap.size g bs cp (fun i j => Pol.co (l i) j) R n := by
  obtain ⟨g, c, hv, hc, hg1, hg2, hcell⟩ := h.cell hR
  have hp : ∀ i, i < R → pa i = some ⟨((pa i).getD ⟨0, 0, none⟩).block, 0, none⟩ := fun i hi => by
    obtain ⟨b, hb, _⟩ := (h.row i hi).store (k := 0) (by rw [hl i hi]; exact hn)
    rw [hb]; rfl
  refine ⟨g, c, fun i => ((pa i).getD ⟨0, 0, none⟩).block, hv, hc, ⟨fun i hi => ?_, fun i hi => ?_, fun i j hi hj e => ?_, fun i hi e => ?_, ⟨hg1, hg2⟩, fun i hi => ?_, fun i hi => ?_, Nat.le_refl _⟩⟩
  · have := hcell i hi
    rw [hp i hi] at this
    exact this
  · have := h.row i hi
    rw [hp i hi] at this
    have hr := this.row
    rw [hl i hi] at hr
    exact hr
  · refine Decidable.byContradiction fun hij => h.dis i j hi hj hij _ _ 0 (hp i hi) ?_
    rw [hp j hj]
    simp only [Option.some.injEq, Addr.mk.injEq, and_true]
    exact e.symm
  · have := h.row i hi
    rw [hp i hi] at this
    refine tag_ne h.own this hne ?_
    rw [hv]
    simp only [Value.ownBlock, Option.some.injEq]
    exact e.symm
  · have := h.row i hi
    rw [hp i hi] at this
    exact this.lt
  · have := (h.row i hi).cap
    rw [hl i hi] at this
    exact this
/-- As rows that are read. -/
theorem Grow.min {w wr : World} {te tb : TypeId} {v : Value} {n R : Nat} {pa : Nat → Option Addr} {cp : Nat → Nat} {l : Nat → List Nat} (h : Grow w wr te tb v n R pa cp l) (hl : ∀ i, i < R → (l i).length = n) :
    ∃ A c, v = .slice A R c ∧ MIn wr wr.heap.size A c R pa cp l := by
  obtain ⟨A, c, hv, hc, hn⟩ := h.shape
  refine ⟨A, c, hv, ⟨fun i hi => ?_, hc, hn⟩⟩
  obtain ⟨g, c2, hv2, _, _, hg, hcell⟩ := h.cell hi
  rw [hv] at hv2
  injection hv2 with h1 _ h3
  refine ⟨g, 0, h1, hg, ?_, (h.row i hi).inn⟩
  rw [Nat.zero_add, (hcell i hi).1, hl i hi]
end Gw
end
section
/- Rows of any lengths that a call appends one by one to rows of its own. -/
namespace Gw
open Go Go.RowKit Go.Shelf
/-- The values of k rows. -/
def rvl (pa : Nat → Option Addr) (cp : Nat → Nat) (l : Nat → List Nat) (k : Nat) : List Value := (List.range k).map fun i => Value.slice (pa i) (l i).length (cp i)
theorem rvl_len (pa : Nat → Option Addr) (cp : Nat → Nat) (l : Nat → List Nat) (k : Nat) : (rvl pa cp l k).length = k := by simp [rvl]
/-- k rows have been appended: v holds them; row i lies at pa i. -/
structure GrowL (w wr : World) (te tb : TypeId) (v : Value) (k : Nat) (pa : Nat → Option Addr) (cp : Nat → Nat) (l : Nat → List Nat) : Prop where
  own : wr.ownsRow w.heap.size te 1 v k (rvl pa cp l k)
  row : ∀ i, i < k → Own wr w.heap.size tb (pa i) (cp i) (l i)
  dis : ∀ i j, i < k → j < k → i ≠ j → ∀ b o o', pa i = some ⟨b, o, none⟩ → pa j ≠ some ⟨b, o', none⟩
  bel : Below w.heap.size w wr
theorem GrowL.step {w wr w2 w3 : World} {te tb : TypeId} {v v' : Value} {k : Nat} {pa : Nat → Option Addr} {cp : Nat → Nat} {l : Nat → List Nat} (h : GrowL w wr te tb v k pa cp l) (hne : te ≠ tb)
    {A2 : Option Addr} {c2 : Nat} (hb : Below wr.heap.size wr w2) (ho : Own w2 wr.heap.size tb A2 c2 (l k)) (o : Obj) (hown : w3.ownsRow w.heap.size te 1 v' (k + 1) (rvl pa cp l k ++ [.slice A2 (l k).length c2])) (hg : (w2.alloc o).grownBy w3 v.ownBlock) :
    GrowL w w3 te tb v' (k + 1) (fun i => if i = k then A2 else pa i) (fun i => if i = k then c2 else cp i) l := by
  have hs := h.bel.size
  have hs2 := hb.size
  have hown2 : w2.ownsRow w.heap.size te 1 v k (rvl pa cp l k) := by
    refine h.own.kept (row := none) ⟨hb.os, hb.tape, hb.output, hb.size, fun i hi _ => hb.block i hi⟩ ?_
    rcases h.own.2 with ⟨hv, _⟩ | ⟨g, cap, cur, hv, _⟩
    · subst hv; exact .inl rfl
    · subst hv; exact .inr (by simp [Value.ownBlock])
  have hvb : ∀ b, v.ownBlock = some b → w.heap.size ≤ b := fun b hb => (h.own.lt b hb).1
  have hkeep : ∀ {A : Option Addr} {c : Nat} {x : List Nat} {base : Nat}, base ≤ w2.heap.size → w.heap.size ≤ base → Own w2 base tb A c x → Own w3 base tb A c x := fun {A c x base} hb1 hb2 hO => by
    have hO1 := hO.alloc o
    refine ⟨hO1.1.kept hg ?_, hO.2⟩
    cases A with
    | none => exact .inl rfl
    | some a =>
      obtain ⟨b, of, sp⟩ := a
      rcases hO.1.2 with ⟨hv, _⟩ | ⟨g2, cap, cur, hv, _⟩
      · injection hv with h1; cases h1
      · injection hv with h1
        injection h1 with h1
        injection h1 with h2 h3 h4
        subst h2 h3 h4
        refine .inr fun e => tag_ne hown2 (hO.base hb2) hne ?_
        simp [Value.ownBlock] at e
        exact e.symm
  refine ⟨?_, fun i hi => ?_, fun i j hi hj hij b o o' e1 e2 => ?_, ?_⟩
  · have e : rvl pa cp l k ++ [.slice A2 (l k).length c2] = rvl (fun i => if i = k then A2 else pa i) (fun i => if i = k then c2 else cp i) l (k + 1) := by
      unfold rvl
      rw [List.range_succ, List.map_append]
      congr 1
      · refine List.map_congr_left fun i hi => ?_
        have := List.mem_range.1 hi
        simp only [if_neg (show i ≠ k by omega)]
      · simp
    rw [e] at hown
    exact hown
  · by_cases e : i = k
    · subst e
      simp only [if_true]
      exact (hkeep hs2 hs ho).base hs
    · simp only [if_neg e]
      exact hkeep (by omega) (Nat.le_refl _) ((h.row i (by omega)).kept hb)
  · by_cases e3 : i = k
    · subst e3
      have e4 : j ≠ i := fun e => hij e.symm
      simp only [if_true] at e1
      simp only [if_neg e4] at e2
      subst e1
      have h1 := (ho.1.lt b rfl).1
      have h2 := h.row j (by omega)
      rw [e2] at h2
      have := (h2.1.lt b rfl).2
      omega
    · simp only [if_neg e3] at e1
      have h1 := h.row i (by omega)
      rw [e1] at h1
      have h1 := (h1.1.lt b rfl).2
      by_cases e4 : j = k
      · subst e4
        simp only [if_true] at e2
        subst e2
        have := (ho.1.lt b rfl).1
        omega
      · simp only [if_neg e4] at e2
        exact h.dis i j (by omega) (by omega) hij b o o' e1 e2
  · refine (h.bel.trans (hb.mono hs)).trans ?_
    exact ((Below.refl w.heap.size w2).alloc (by omega) o).grown hg (by simp; omega) (fun b hb => hvb b hb)
theorem GrowL.own2 {w wr w2 : World} {te tb : TypeId} {v : Value} {k : Nat} {pa : Nat → Option Addr} {cp : Nat → Nat} {l : Nat → List Nat} (h : GrowL w wr te tb v k pa cp l) (hb : Below wr.heap.size wr w2) : w2.ownsRow w.heap.size te 1 v k (rvl pa cp l k) := by
  refine h.own.kept (row := none) ⟨hb.os, hb.tape, hb.output, hb.size, fun i hi _ => hb.block i hi⟩ ?_
  rcases h.own.2 with ⟨hv, _⟩ | ⟨g, cap, cur, hv, _⟩
  · subst hv; exact .inl rfl
  · subst hv; exact .inr (by simp [Value.ownBlock])
theorem GrowL.start (w : World) (te tb : TypeId) (l : Nat → List Nat) : GrowL w w te tb (.slice none 0 0) 0 (fun _ => none) (fun _ => 0) l :=
  ⟨World.ownsRow_nil w _ te 1, fun i hi => by omega, fun i j hi => by omega, Below.refl _ _⟩
theorem GrowL.shape {w wr : World} {te tb : TypeId} {v : Value} {k : Nat} {pa : Nat → Option Addr} {cp : Nat → Nat} {l : Nat → List Nat} (h : GrowL w wr te tb v k pa cp l) : ∃ A c, v = .slice A k c ∧ k ≤ c ∧ (A = none → c = 0) := by
  rcases h.own.2 with ⟨hv, h0⟩ | ⟨g, cap, cur, hv, _, _, h1, _⟩
  · subst hv; exact ⟨none, 0, by rw [h0], by omega, fun _ => rfl⟩
  · subst hv; exact ⟨_, cap, rfl, h1, fun h => by cases h⟩
theorem GrowL.cell {w wr : World} {te tb : TypeId} {v : Value} {k : Nat} {pa : Nat → Option Addr} {cp : Nat → Nat} {l : Nat → List Nat} (h : GrowL w wr te tb v k pa cp l) {i : Nat} (hi : i < k) :
    ∃ g c, v = .slice (some ⟨g, 0, none⟩) k c ∧ k ≤ c ∧ w.heap.size ≤ g ∧ g < wr.heap.size ∧ ∀ j, j < k → wr.cell? ⟨g, j, none⟩ = some (.slice (pa j) (l j).length (cp j)) ∧ wr.frozen? ⟨g, j, none⟩ = false := by
  rcases h.own.2 with ⟨hv, h0⟩ | ⟨g, cap, cur, hv, hb, hg, h1, _⟩
  · omega
  · subst hv
    refine ⟨g, cap, rfl, h1, hb, (Array.getElem?_eq_some_iff.1 hg).1, fun j hj => ⟨?_, h.own.frozenAt j⟩⟩
    rw [h.own.cellAt j (by omega)]
    simp [rvl, hj]
/-- As rows that are read. -/
theorem GrowL.min {w wr : World} {te tb : TypeId} {v : Value} {R : Nat} {pa : Nat → Option Addr} {cp : Nat → Nat} {l : Nat → List Nat} (h : GrowL w wr te tb v R pa cp l) :
    ∃ A c, v = .slice A R c ∧ MIn wr wr.heap.size A c R pa cp l := by
  obtain ⟨A, c, hv, hc, hn⟩ := h.shape
  refine ⟨A, c, hv, ⟨fun i hi => ?_, hc, hn⟩⟩
  obtain ⟨g, c2, hv2, _, _, hg, hcell⟩ := h.cell hi
  rw [hv] at hv2
  injection hv2 with h1 _ h3
  refine ⟨g, 0, h1, hg, ?_, (h.row i hi).inn⟩
  rw [Nat.zero_add, (hcell i hi).1]
end Gw
end
section
/- A byte among the program's types. -/
namespace Go.Proofs.Ytgikgnhpplmljaa
open Go.RowKit Go.Shelf Gw Pol
theorem pbyte_info : (Try.prog.info? 5).map (fun i => (i.zero, i.size, i.bytes)) = some (some (.int .u8 0), 1, 1) := by kernel_rfl
theorem pbyte_size : (Try.prog.info? 5).map (·.size) = some 1 := by kernel_rfl
end Go.Proofs.Ytgikgnhpplmljaa
end
section
/- Parts of a row of bytes that is read, as s[k:], s[k:h] and s[:h] name them. -/
namespace Go.Proofs.Ytgikgnhpplmljaa
open Go.RowKit Go.Shelf Gw Pol
theorem sliced_in {w : World} {B : Nat} {A : Option Addr} {c k h : Nat} {l : List Nat} (hI : In w B A c l) (hk : k ≤ h) (hh : h ≤ l.length) :
    ∃ AT, sliced A k h c 1 = .slice AT (h - k) (c - k) ∧ In w B AT (c - k) ((l.take h).drop k) := by
  have hcap := hI.cap
  refine ⟨_, rfl, ?_, by rw [List.length_drop, List.length_take]; omega, fun hn => ?_⟩
  · intro i x hx
    have hi := (List.getElem?_eq_some_iff.1 hx).1
    rw [List.length_drop, List.length_take] at hi
    rw [List.getElem?_drop, List.getElem?_take, if_pos (by omega)] at hx
    obtain ⟨h1, b, off, h2, h3, h4⟩ := hI.sl _ x hx
    subst h2
    rw [if_neg (by omega)]
    exact ⟨h1, b, off + k, by rw [Option.map_some, Nat.mul_one, addr_add], h3, by rw [Nat.add_assoc]; exact h4⟩
  · by_cases hck : c = k
    · omega
    · rw [if_neg hck] at hn
      cases A with
      | none => have := hI.none_ rfl; omega
      | some a => cases hn
theorem slice_elem : Try.prog.underlying 36 = some (.slice (Try.prog.elem 36)) := by kernel_rfl
theorem slice_one (w : World) : (Go.sizeOf (Try.prog.elem 36)).run Try.prog w = .ok 1 w := by kernel_rfl
/-- s[k:]. -/
theorem slice_l_any {w : World} {B : Nat} {A : Option Addr} {c n k : Nat} {l : List Nat} (hI : In w B A c l) (hn : n = l.length) (hk : k ≤ n) :
    ∃ AT cT, (∀ w', (Instr.sliceAt 36 (.slice A n c) (some (.int .i64 (k : Int))) none none).run Try.prog w' = .ok (.slice AT (n - k) cT) w') ∧ In w B AT cT (l.drop k) := by
  subst hn
  obtain ⟨AT, h1, h2⟩ := sliced_in hI hk (Nat.le_refl _)
  rw [List.take_length] at h2
  refine ⟨AT, c - k, fun w' => ?_, h2⟩
  rw [run_sliceAt_slice w' _ _ _ _ _ slice_elem, run_slice_l w' _ A l.length c slice_elem .i64 (k : Int) (by omega) (by omega), slice_one, Result.andThen_ok, Int.toNat_natCast, h1]
/-- s[k:h]. -/
theorem slice_lh_any {w : World} {B : Nat} {A : Option Addr} {c n k h : Nat} {l : List Nat} (hI : In w B A c l) (hn : n = l.length) (hk : k ≤ h) (hh : h ≤ n) :
    ∃ AT cT, (∀ w', (Instr.sliceAt 36 (.slice A n c) (some (.int .i64 (k : Int))) (some (.int .i64 (h : Int))) none).run Try.prog w' = .ok (.slice AT (h - k) cT) w') ∧ In w B AT cT ((l.take h).drop k) := by
  subst hn
  have hcap := hI.cap
  obtain ⟨AT, h1, h2⟩ := sliced_in hI hk hh
  refine ⟨AT, c - k, fun w' => ?_, h2⟩
  rw [run_sliceAt_slice w' _ _ _ _ _ slice_elem, run_slice_lh w' _ A l.length c slice_elem .i64 .i64 (k : Int) (h : Int) (by omega) (by omega) (by omega), slice_one, Result.andThen_ok, Int.toNat_natCast, Int.toNat_natCast, h1]
/-- s[:h]. -/
theorem slice_h_any {w : World} {B : Nat} {A : Option Addr} {c n h : Nat} {l : List Nat} (hI : In w B A c l) (hn : n = l.length) (hh : h ≤ n) :
    ∃ AT cT, (∀ w', (Instr.sliceAt 36 (.slice A n c) none (some (.int .i64 (h : Int))) none).run Try.prog w' = .ok (.slice AT h cT) w') ∧ In w B AT cT (l.take h) := by
  subst hn
  have hcap := hI.cap
  obtain ⟨AT, h1, h2⟩ := sliced_in hI (Nat.zero_le _) hh
  rw [List.drop_zero] at h2
  rw [Nat.sub_zero] at h1 h2
  refine ⟨AT, c, fun w' => ?_, h2⟩
  rw [run_sliceAt_slice w' _ _ _ _ _ slice_elem, run_slice_h w' _ A l.length c slice_elem .i64 (h : Int) (by omega) (by omega), slice_one, Result.andThen_ok, Int.toNat_natCast, h1]
  rfl
end Go.Proofs.Ytgikgnhpplmljaa
end
section
/- A document's columns in numbers. -/
namespace Sp
open Pol
/-- Column i of k bytes. -/
def col (d : List Nat) (k i : Nat) : List Nat := (List.range k).map fun j => co d (i * k + j)
theorem col_len (d : List Nat) (k i : Nat) : (col d k i).length = k := by simp [col]
theorem col_at {d : List Nat} {k i j : Nat} (hj : j < k) : co (col d k i) j = co d (i * k + j) := by
  simp [co, col, hj]
theorem col_bb {d : List Nat} (h : BB d) (k i : Nat) : BB (col d k i) := fun x hx => by
  obtain ⟨j, _, rfl⟩ := List.mem_map.1 hx
  exact h.co _
/-- How many there are. -/
def cnt (n k : Nat) : Nat := if n = 0 ∨ k = 0 then 0 else (n - 1) / k + 1
theorem cnt_none (n : Nat) : cnt n 0 = 0 := by simp [cnt]
theorem cnt_lt {n k i : Nat} (hk : 0 < k) : i < cnt n k ↔ i * k < n := by
  unfold cnt
  by_cases h0 : n = 0
  · subst h0; simp
  · rw [if_neg (by omega), Nat.lt_succ_iff, Nat.le_div_iff_mul_le hk]
    omega
theorem cnt_le (n k : Nat) : cnt n k ≤ n := by
  by_cases hk : k = 0
  · subst hk; rw [cnt_none]; exact Nat.zero_le _
  by_cases h : cnt n k = 0
  · omega
  · have h1 := (cnt_lt (n := n) (k := k) (by omega) (i := cnt n k - 1)).1 (by omega)
    have h2 : cnt n k - 1 ≤ (cnt n k - 1) * k := Nat.le_mul_of_pos_right _ (by omega)
    omega
/-- The columns hold all. -/
theorem cnt_all {n k : Nat} (hk : 0 < k) : n ≤ cnt n k * k := by
  have h := (cnt_lt (n := n) (k := k) (i := cnt n k) hk)
  omega
theorem cnt_room {n k : Nat} (hk : 0 < k) : cnt n k * k ≤ n + k := by
  by_cases h : cnt n k = 0
  · rw [h]; omega
  · have h1 := (cnt_lt (n := n) (k := k) hk (i := cnt n k - 1)).1 (by omega)
    obtain ⟨q, hq⟩ : ∃ q, cnt n k = q + 1 := ⟨cnt n k - 1, by omega⟩
    rw [hq] at h1 ⊢
    rw [Nat.add_sub_cancel] at h1
    rw [Nat.succ_mul]; omega
theorem cnt_zero {n k : Nat} (hk : 0 < k) : cnt n k = 0 ↔ n = 0 := by
  have h := cnt_lt (n := n) (k := k) (i := 0) hk
  rw [Nat.zero_mul] at h
  omega
/-- A byte more. -/
theorem cnt_more {n k : Nat} (hk : 0 < k) : cnt (n + 1) k = cnt n k + (if n % k = 0 then 1 else 0) := by
  unfold cnt
  rw [if_neg (by omega), Nat.add_sub_cancel]
  by_cases h0 : n = 0
  · subst h0; simp
  · rw [if_neg (by omega)]
    obtain ⟨m, rfl⟩ : ∃ m, n = m + 1 := ⟨n - 1, by omega⟩
    rw [Nat.add_sub_cancel, Nat.succ_div]
    by_cases hd : k ∣ m + 1
    · rw [if_pos hd, if_pos (Nat.mod_eq_zero_of_dvd hd)]
    · rw [if_neg hd, if_neg (fun h => hd (Nat.dvd_of_mod_eq_zero h))]
theorem col_more {d : List Nat} {k i x : Nat} (h : i * k + k ≤ d.length) : col (d ++ [x]) k i = col d k i := by
  unfold col
  refine List.map_congr_left fun j hj => ?_
  have := List.mem_range.1 hj
  exact co_append_left (by omega)
/-- The same of any ints. -/
def colsZ (s k : Int) : Int := if s ≤ 0 ∨ k < 1 then 0 else (s - 1) / k + 1
theorem colsZ_nat (n k : Nat) : colsZ (n : Int) (k : Int) = (cnt n k : Int) := by
  unfold colsZ cnt
  by_cases h : n = 0 ∨ k = 0
  · rw [if_pos (by omega), if_pos h]; rfl
  · rw [if_neg (by omega), if_neg h]
    have : (n : Int) - 1 = ((n - 1 : Nat) : Int) := by omega
    rw [this]
    simp
/-- Rows one behind the other. -/
def cat (l : Nat → List Nat) : Nat → List Nat
  | 0 => []
  | k + 1 => cat l k ++ l k
theorem cat_len {l : Nat → List Nat} {k R : Nat} (h : ∀ i, i < R → (l i).length = k) : (cat l R).length = R * k := by
  induction R with
  | zero => simp [cat]
  | succ R ih => rw [cat, List.length_append, ih (fun i hi => h i (by omega)), h R (by omega), Nat.succ_mul]
theorem cat_co {l : Nat → List Nat} {k R : Nat} (h : ∀ i, i < R → (l i).length = k) {i j : Nat} (hi : i < R) (hj : j < k) : co (cat l R) (i * k + j) = co (l i) j := by
  induction R with
  | zero => omega
  | succ R ih =>
    have hl := cat_len (l := l) (k := k) (R := R) (fun i hi => h i (by omega))
    rw [cat]
    by_cases hiR : i < R
    · have : i * k + j < R * k := by
        have := Nat.mul_le_mul_right k (show i + 1 ≤ R from hiR)
        rw [Nat.succ_mul] at this
        omega
      rw [co_append_left (by omega)]
      exact ih (fun i hi => h i (by omega)) hiR
    · have : i = R := by omega
      subst this
      rw [co_append_right (by omega), hl]
      congr 1; omega
/-- The columns one behind the other begin with the document. -/
theorem cat_col {d : List Nat} {k : Nat} (hk : 0 < k) : (cat (col d k) (cnt d.length k)).take d.length = d := by
  have hlen := cat_len (l := col d k) (k := k) (R := cnt d.length k) (fun i _ => col_len d k i)
  have hall := cnt_all (n := d.length) hk
  apply List.ext_getElem
  · rw [List.length_take]; omega
  · intro i h1 h2
    have hq : i / k < cnt d.length k := (cnt_lt hk).2 (by have := Nat.div_mul_le_self i k; omega)
    have hi : i = i / k * k + i % k := by have := Nat.div_add_mod i k; rw [Nat.mul_comm] at this; omega
    have h3 : co (cat (col d k) (cnt d.length k)) i = co d i := by
      have h4 := cat_co (l := col d k) (k := k) (fun i _ => col_len d k i) hq (Nat.mod_lt i hk)
      rw [← hi, col_at (Nat.mod_lt i hk), ← hi] at h4
      exact h4
    rw [co_get (by omega), co_get h2] at h3
    rw [List.getElem_take]
    exact h3
/-- The first i bytes of a column, and noughts. -/
def pre (d : List Nat) (k q i : Nat) : List Nat := (List.range k).map fun j => if j < i then co d (q * k + j) else 0
theorem pre_len (d : List Nat) (k q i : Nat) : (pre d k q i).length = k := by simp [pre]
theorem pre_zero (d : List Nat) (k q : Nat) : pre d k q 0 = List.replicate k 0 := by
  apply List.ext_getElem
  · simp [pre]
  · intro i h1 h2; simp [pre]
theorem pre_set {d : List Nat} {k q i : Nat} : (pre d k q i).set i (co d (q * k + i)) = pre d k q (i + 1) := by
  apply List.ext_getElem
  · simp [pre]
  · intro j h1 h2
    simp only [pre, List.getElem_set, List.getElem_map, List.getElem_range]
    by_cases hj : i = j
    · subst hj; simp
    · rw [if_neg hj]
      by_cases h3 : j < i
      · rw [if_pos h3, if_pos (by omega)]
      · rw [if_neg h3, if_neg (by omega)]
theorem pre_done {d : List Nat} {k q i : Nat} (h : k ≤ i ∨ d.length ≤ q * k + i) : pre d k q i = col d k q := by
  apply List.ext_getElem
  · simp [pre, col]
  · intro j h1 h2
    simp only [pre, col, List.getElem_map, List.getElem_range]
    by_cases hj : j < i
    · rw [if_pos hj]
    · rw [if_neg hj, co_far]
      have : j < k := by simpa [pre] using h1
      omega
end Sp
end
section
/- What the definition's own Split (package shamrockref06) does: columns, in memory of its own. -/
namespace Go.Proofs.Ytgikgnhpplmljaa
open Go.RowKit Go.Shelf Gw Pol
theorem srow_info : (Try.prog.info? 36).map (fun i => (i.zero, i.size, i.bytes)) = some (some (.slice none 0 0), 1, 24) := by kernel_rfl
def RspRel (w : World) (N k : Nat) (d : List Nat) (v i : Value) (wr : World) : Prop :=
  ∃ (q a : Nat) (pa : Nat → Option Addr) (cp : Nat → Nat), i = .int .i64 (a : Int) ∧ a = q * k ∧ q ≤ Sp.cnt N k ∧ Grow w wr 36 5 v k q pa cp (Sp.col d k)

set_option maxRecDepth 100000 in
set_option maxHeartbeats 2000000 in
theorem rsplit_any (A : Option Addr) (c N k : Nat) (d : List Nat) (w : World) (hN : N = d.length) (hI : In w w.heap.size A c d) (hk : 0 < k) (hk2 : k ≤ 1048576) (hNb : N ≤ 1048576) :
    Calls Try.prog 44 #[.slice A N c, .int .i64 (k : Int)] w fun e w' => ∃ v pa cp, e = .returned v ∧ Grow w w' 36 5 v k (Sp.cnt N k) pa cp (Sp.col d k) := by
  obtain ⟨i1, hj0, hj1, hj2, hj3⟩ := info_parts srow_info
  have hmk := run_make_row' (P := Try.prog) 36 5 (.int .u8 0) 1 Try.underlying36 pbyte_info rfl .i64 .i64 k (by omega) (by omega)
  have HN := Lib.hid hN
  clear hN
  have hle := Sp.cnt_le N k
  go_enter Try.func44, Try.ntmps44
  go_wp2
  go_loopw [5, 6] (RspRel w N k d) (fun _ i _ => N - (intOf i).toNat)
  case atStart => exact ⟨0, 0, _, _, rfl, by simp, Nat.zero_le _, Grow.start _ _ _ _ _⟩
  case round =>
    obtain ⟨q, a, pa, cp, rfl, ha, hq, hG⟩ := hrel
    have hs := hG.bel.size
    by_cases hlt : a < N
    · have hq1 : q < Sp.cnt N k := (Sp.cnt_lt hk).2 (by rw [← ha]; exact hlt)
      have HA := Lib.hid ha
      have HG := Lib.hid hG
      clear hG ha
      obtain ⟨w0, rfl⟩ : ∃ w0, w0 = wr := ⟨_, rfl⟩
      have hm0 := Own.made w0 5 k (by omega)
      rw [← Sp.pre_zero d k q] at hm0
      have hb0 : Below w0.heap.size w0 (w0.alloc (.cells (madeCells #[.int .u8 0] k) 5)) := (Below.refl _ _).alloc (Nat.le_refl _) _
      have HI := Lib.hid (hI.below HG.out.bel)
      go_wp2
      go_loopw [8] (fun i wi => ∃ j : Nat, i = .int .i64 (j : Int) ∧ j ≤ k ∧ a + j ≤ N ∧ Gw.Own wi w0.heap.size 5 (some ⟨w0.heap.size, 0, none⟩) k (Sp.pre d k q j) ∧ Below w0.heap.size w0 wi) (fun i _ => k - (intOf i).toNat)
      case atStart => exact ⟨0, rfl, Nat.zero_le _, by omega, hm0, hb0⟩
      case round =>
        obtain ⟨j, rfl, hj, hjN, hown, hb⟩ := hrel
        have hsb := hb.size
        clear hm0 hb0
        obtain ⟨t, ht⟩ : ∃ t, t = a + j := ⟨_, rfl⟩
        have hwt : IntKind.i64.wrap ((a : Int) + (j : Int)) = (t : Int) := by rw [IntKind.wrap_i64]; omega
        by_cases hjk : j < k
        · by_cases htN : t < N
          · obtain ⟨x, b, off, hx, hxb, rfl, hbo, hcell⟩ := (HI.out.below (hb.mono hs)).sl.at_ (k := t) (by rw [← HN.out]; exact htN)
            have hcap := HI.out.cap
            rw [← HN.out] at hcap
            have H1 := Lib.hid (hown.put (k := j) (by rw [Sp.pre_len]; exact hjk) hxb)
            have HX := Lib.hid (show co d (q * k + j) = x by rw [← HA.out, ← ht]; exact co_of' hx)
            have H2 := Lib.hid (hb.setCell (p := ⟨w0.heap.size, j, none⟩) (by show w0.heap.size ≤ w0.heap.size; exact Nat.le_refl _) (.int .u8 (x : Int)))
            have hfr := hown.frozen j
            have hc0 := hown.cell (k := j) (by rw [Sp.pre_len]; exact hjk)
            have HT := Lib.hid ht
            clear hx hown hb ht
            go_wp2
            go_roundw
            case rel => exact ⟨j + 1, by go_num, by omega, by have := HT.out; omega, by have h3 := H1.out; rw [← HX.out, Sp.pre_set] at h3; rw [← HX.out]; exact h3, H2.out⟩
            case measure => simp [intOf]; omega
          · have H1 := Lib.hid (show Gw.Own wr w0.heap.size 5 (some ⟨w0.heap.size, 0, none⟩) k (Sp.col d k q) by rw [← Sp.pre_done (d := d) (k := k) (q := q) (i := j) (by rw [← HA.out, ← HN.out]; omega)]; exact hown)
            have HB := Lib.hid hb
            have H3 := Lib.hid (show a + k = (q + 1) * k by rw [HA.out, Nat.succ_mul])
            clear hown hb ht
            go_wp2_with (first
              | (at_builtin; refine wpList_append_own _ rfl (.tmp 40) (.tmp 42) 25 rfl w.heap.size 36 i1 (.slice none 0 0) 1 24 Try.underlying25 hj0 hj1 hj2 hj3 rfl (by decide) _ q (rvs pa cp k q) rfl ((HG.out.own2 HB.out).alloc _) ⟨wr.heap.size, 0, none⟩ 1 1 [.slice (some ⟨w0.heap.size, 0, none⟩) k k] rfl rfl (fun j u hj => by
                    match j, hj with
                    | 0, hj => simp at hj; subst hj; exact cell_new wr _ _) (fun u hu => by simp at hu; subst hu; rfl) (by simp only [maxLen]; omega) (by omega) (by rw [World.size_alloc]; omega) ?_; intro v' w3 hown3 hgr3 _)
              | fail)
            have HS := Lib.hid (HG.out.step (by decide) HB.out H1.out _ hown3 hgr3)
            clear hown3 hgr3
            go_roundw
            case rel => exact ⟨q + 1, a + k, _, _, by go_num, H3.out, by omega, HS.out⟩
            case measure => simp [intOf]; omega
        · have H1 := Lib.hid (show Gw.Own wr w0.heap.size 5 (some ⟨w0.heap.size, 0, none⟩) k (Sp.col d k q) by rw [← Sp.pre_done (d := d) (k := k) (q := q) (i := j) (by rw [← HA.out, ← HN.out]; omega)]; exact hown)
          have HB := Lib.hid hb
          have H3 := Lib.hid (show a + k = (q + 1) * k by rw [HA.out, Nat.succ_mul])
          clear hown hb ht
          go_wp2_with (first
            | (at_builtin; refine wpList_append_own _ rfl (.tmp 40) (.tmp 42) 25 rfl w.heap.size 36 i1 (.slice none 0 0) 1 24 Try.underlying25 hj0 hj1 hj2 hj3 rfl (by decide) _ q (rvs pa cp k q) rfl ((HG.out.own2 HB.out).alloc _) ⟨wr.heap.size, 0, none⟩ 1 1 [.slice (some ⟨w0.heap.size, 0, none⟩) k k] rfl rfl (fun j u hj => by
                  match j, hj with
                  | 0, hj => simp at hj; subst hj; exact cell_new wr _ _) (fun u hu => by simp at hu; subst hu; rfl) (by simp only [maxLen]; omega) (by omega) (by rw [World.size_alloc]; omega) ?_; intro v' w3 hown3 hgr3 _)
            | fail)
          have HS := Lib.hid (HG.out.step (by decide) HB.out H1.out _ hown3 hgr3)
          clear hown3 hgr3
          go_roundw
          case rel => exact ⟨q + 1, a + k, _, _, by go_num, H3.out, by omega, HS.out⟩
          case measure => simp [intOf]; omega
    · have hqe : q = Sp.cnt N k := by
        have := (Sp.cnt_lt (n := N) (i := q) hk)
        rw [← ha] at this
        omega
      obtain rfl := hqe
      have HG := Lib.hid hG
      have HA := Lib.hid ha
      clear hG ha
      go_wp2
      go_ret
      exact ⟨_, pa, cp, rfl, HG.out⟩
end Go.Proofs.Ytgikgnhpplmljaa
end
section
/- What the definition's own Times (package shamrockref10) does. -/
namespace Gw
open Go Go.RowKit Go.Shelf
theorem GrowL.from {w w1 wr : World} {te tb : TypeId} {v : Value} {k : Nat} {pa : Nat → Option Addr} {cp : Nat → Nat} {l : Nat → List Nat} (h : GrowL w1 wr te tb v k pa cp l) (hb : Below w.heap.size w w1) : GrowL w wr te tb v k pa cp l := by
  refine ⟨⟨h.own.1, ?_⟩, fun i hi => (h.row i hi).base hb.size, h.dis, hb.trans (h.bel.mono hb.size)⟩
  rcases h.own.2 with h0 | ⟨g, cap, cur, hv, hg, h0⟩
  · exact .inl h0
  · exact .inr ⟨g, cap, cur, hv, Nat.le_trans hb.size hg, h0⟩
end Gw
namespace Go.Proofs.Ytgikgnhpplmljaa
open Go.RowKit Go.Shelf Gw Pol
/-- Column c's random bytes. -/
def chunk (rnd : List Nat) (m c : Nat) : List Nat := (rnd.drop (c * m)).take m
theorem chunk_len {rnd : List Nat} {m c n : Nat} (h : n * m ≤ rnd.length) (hc : c < n) : (chunk rnd m c).length = m := by
  have := Nat.mul_le_mul_right m (show c + 1 ≤ n from hc)
  rw [Nat.succ_mul] at this
  rw [chunk, List.length_take, List.length_drop]; omega
theorem chunk_cut (rnd : List Nat) (m c : Nat) : (rnd.take (c * m + m)).drop (c * m) = chunk rnd m c := by
  rw [chunk, List.drop_take]; congr 1; omega
/-- Polynomials of random bytes, each times a factor. -/
def timL (fac rnd : List Nat) (m c : Nat) : List Nat := tr (mul fac (chunk rnd m c))
def TimRel (w1 : World) (fac rnd : List Nat) (m cols : Nat) (v i : Value) (wr : World) : Prop :=
  ∃ (q : Nat) (pa : Nat → Option Addr) (cp : Nat → Nat), i = .int .i64 (q : Int) ∧ q ≤ cols ∧ GrowL w1 wr 36 5 v q pa cp (timL fac rnd m)
set_option maxRecDepth 100000 in
set_option maxHeartbeats 2000000 in
theorem rtim_any (N : Int) (t k : Nat) (E R kind : Int) (ht : 1 ≤ t) (htk : t + k ≤ 255) (cols m : Nat) (hm : m = eachN t k kind) (Ar Af : Option Addr) (cr cf nr nf : Nat) (rnd fac : List Nat) (hnr : nr = rnd.length) (hnf : nf = fac.length) (w : World)
    (hr : In w w.heap.size Ar cr rnd) (hf : In w w.heap.size Af cf fac) (hlen : cols * m ≤ rnd.length) (hcols : cols ≤ 4096) (hfl : fac.length ≤ 1024) :
    Calls Try.prog 45 #[pv N t k E R, .int .i64 kind, .int .i64 (cols : Int), .slice Ar nr cr, .slice Af nf cf] w fun e w' => ∃ v pa cp, e = .returned v ∧ GrowL w w' 36 5 v cols pa cp (timL fac rnd m) := by
  obtain ⟨i1, hj0, hj1, hj2, hj3⟩ := info_parts srow_info
  have hme : m ≤ 255 := by rw [hm]; unfold eachN; split <;> (try split) <;> (try split) <;> omega
  have hb0 : Below w.heap.size w (w.alloc (.cells #[.int .i64 N, .int .i64 (t : Int), .int .i64 (k : Int), .int .i64 E, .int .i64 R] 23)) := (Below.refl _ w).alloc (Nat.le_refl _) _
  have HE := Lib.hid (reach_any N t k E R kind ht htk (w.alloc (.cells #[.int .i64 N, .int .i64 (t : Int), .int .i64 (k : Int), .int .i64 E, .int .i64 R] 23)))
  rw [← hm] at HE
  clear hm
  have HNR := Lib.hid hnr
  have HNF := Lib.hid hnf
  clear hnr hnf
  go_enter Try.func45, Try.ntmps45
  go_wp2_with fail
  refine HE.out.mono ?_
  rintro e w1 ⟨rfl, hb1⟩
  have HB1 := Lib.hid (hb0.trans (hb1.mono hb0.size))
  clear hb0 hb1 HE
  have HI := Lib.hid (hr.below HB1.out)
  have HF := Lib.hid (hf.below HB1.out)
  go_wp2
  go_loopw [11, 13] (TimRel w1 fac rnd m cols) (fun _ i _ => cols - (intOf i).toNat)
  case atStart => exact ⟨0, _, _, rfl, Nat.zero_le _, GrowL.start _ _ _ _⟩
  case round =>
    obtain ⟨q, pa, cp, rfl, hq, hG⟩ := hrel
    have hs := hG.bel.size
    have HBR := Lib.hid (HB1.out.trans (hG.bel.mono HB1.out.size))
    have hs0 := HBR.out.size
    by_cases hlt : q < cols
    · have hqm : q * m + m ≤ rnd.length := by
        have := Nat.mul_le_mul_right m (show q + 1 ≤ cols from hlt)
        rw [Nat.succ_mul] at this
        omega
      have hqb : q * m ≤ 4096 * 255 := Nat.mul_le_mul (by omega) hme
      obtain ⟨AT, cT, hsl, hIT⟩ := slice_lh_any (hr.below HBR.out) HNR.out (k := q * m) (h := q * m + m) (by omega) (by rw [HNR.out]; exact hqm)
      rw [chunk_cut] at hIT
      have HLC := Lib.hid (chunk_len hlen hlt)
      obtain ⟨s, hse⟩ : ∃ s, s = q * m := ⟨_, rfl⟩
      have e1 : (q : Int) * (m : Int) = (s : Int) := by rw [hse]; simp
      have e2 : (s : Int) + (m : Int) = ((s + m : Nat) : Int) := by simp
      obtain ⟨s2, hs2⟩ : ∃ s2, s2 = s + m := ⟨_, rfl⟩
      have e3 : s2 - s = m := by omega
      rw [← hse] at hsl hqb hqm
      rw [← hs2] at hsl e2 hqm
      rw [e3] at hsl
      have HIT := Lib.hid hIT
      obtain ⟨nl, hnl⟩ : ∃ nl, nl = (timL fac rnd m q).length := ⟨_, rfl⟩
      have hT : Calls Try.prog 66 #[.slice Af nf cf, .slice AT m cT] wr fun e w' => ∃ A2 c2, e = .returned (.slice A2 nl c2) ∧ Gw.Own w' wr.heap.size 5 A2 c2 (timL fac rnd m q) ∧ Below wr.heap.size wr w' := by
        rw [hnl]; exact rtimes' Af AT cf cT nf m fac (chunk rnd m q) wr HNF.out HLC.out.symm ((hf.below HBR.out).more hs0) (hIT.more hs0) (by rw [HLC.out]; omega)
      have HT := Lib.hid hT
      have HNL := Lib.hid hnl
      have HG := Lib.hid hG
      clear hG hIT hse hs2 e3 hT hnl
      go_wp2_with fail
      refine HT.out.mono ?_
      rintro e w2 ⟨A2, c2, rfl, hown2, hb2⟩
      have HO2 := Lib.hid hown2
      have HB2 := Lib.hid hb2
      have hs2 := hb2.size
      clear hown2 hb2 hsl
      go_wp2_with (first
        | (at_builtin; refine wpList_append_own _ rfl (.tmp 22) (.tmp 35) 25 rfl w1.heap.size 36 i1 (.slice none 0 0) 1 24 Try.underlying25 hj0 hj1 hj2 hj3 rfl (by decide) _ q (rvl pa cp (timL fac rnd m) q) rfl ((HG.out.own2 HB2.out).alloc _) ⟨w2.heap.size, 0, none⟩ 1 1 [.slice A2 nl c2] rfl rfl (fun j u hj => by
              match j, hj with
              | 0, hj => simp at hj; subst hj; exact cell_new w2 _ _) (fun u hu => by simp at hu; subst hu; rfl) (by simp only [maxLen]; omega) (by omega) (by rw [World.size_alloc]; omega) ?_; intro v' w3 hown3 hgr3 _)
        | fail)
      rw [HNL.out] at hown3
      have HS := Lib.hid (HG.out.step (by decide) HB2.out HO2.out _ hown3 hgr3)
      clear hown3 hgr3
      go_roundw
      case rel => exact ⟨q + 1, _, _, by go_num, by omega, HS.out⟩
      case measure => simp [intOf]; omega
    · obtain rfl : q = cols := by omega
      have HG := Lib.hid (hG.from HB1.out)
      clear hG
      go_wp2
      go_ret
      exact ⟨_, _, _, rfl, HG.out⟩
end Go.Proofs.Ytgikgnhpplmljaa
end
section
/- A region that leaves its order open, where each operation's value is told by a predicate of its own that later growth of the world bears: whatever order comes, each operation is looked at once. -/
namespace Gt
open Go Go.RowKit

/-- What is asked of an operation's outcome. -/
def StepOK (P : Program) (R : World → World → Prop) (V : Value → World → Prop) (w : World) : Result Next → Prop
  | .ok (.value v) w' => R w w' ∧ V v w'
  | .ok .skip w' => R w w' ∧ V undef w'
  | .ok (.enter f args) w' => Calls P f args w' fun e w'' => ∃ v, e = .returned v ∧ R w w'' ∧ V v w''
  | _ => False
/-- Of an operation: which earlier ones' values it may know (number, slot); which slots it reads that stand as they were; its guard (slot, what is wanted). -/
structure Plan where
  ds : List (Nat × Nat)
  ks : List Nat
  gd : Option (Nat × Bool)
def preds (o : Oper) (j : Nat) : Bool := o.after.any fun e => Region.binds .any e && e.on == j
def dstB (ops : Array Oper) (j d : Nat) : Bool := match ops[j]? with | some o => o.dst == some d | none => false
def freeB (ops : Array Oper) (i k : Nat) : Bool := (List.range ops.size).all fun j => j == i || (match ops[j]? with | some o => o.dst != some k || preds o i | none => true)
def loneB (ops : Array Oper) (i : Nat) (o : Oper) : Bool := (List.range ops.size).all fun j => j == i || o.dst.isNone || (match ops[j]? with | some oj => oj.dst != o.dst | none => true)
def opB (ops : Array Oper) (n i : Nat) (o : Oper) (p : Plan) : Bool :=
  (match o.dst with | some d => decide (d < n) | none => true) && (o.after.all fun e => !Region.binds .any e || decide (e.on < i)) &&
  (p.ds.all fun x => dstB ops x.1 x.2 && preds o x.1) && (p.ks.all fun k => freeB ops i k) && loneB ops i o &&
  (match o.guard, p.gd with | none, none => true | some (g, b), some (d, b') => dstB ops g d && b == b' | _, _ => false)
def okB (ops : Array Oper) (n : Nat) (plan : List Plan) : Bool :=
  (List.range ops.size).all fun i => match ops[i]?, plan[i]? with | some o, some p => opB ops n i o p | _, _ => false
def endB (ops : Array Oper) (es : List (Nat × Nat)) (ks : List Nat) : Bool :=
  (es.all fun x => dstB ops x.1 x.2) && (ks.all fun k => (List.range ops.size).all fun j => match ops[j]? with | some o => o.dst != some k | none => true)

def Pre (T : Nat → Value → World → Prop) (a : Act) (w : World) : List (Nat × Nat) → Prop → Prop
  | [], G => G
  | x :: t, G => T x.1 (a.eval (.tmp x.2)) w → Pre T a w t G
def Kept (a a0 : Act) : List Nat → Prop → Prop
  | [], G => G
  | k :: t, G => a.eval (.tmp k) = a0.eval (.tmp k) → Kept a a0 t G
def Guarded (a : Act) (gd : Option (Nat × Bool)) (G N : Prop) : Prop :=
  match gd with
  | none => G
  | some (d, b) => (a.eval (.tmp d) = .bool b → G) ∧ (a.eval (.tmp d) ≠ .bool b → N)
def Ob (P : Program) (R : World → World → Prop) (T : Nat → Value → World → Prop) (a0 : Act) (w0 : World) (i : Nat) (o : Oper) (p : Plan) : Prop :=
  ∀ a w, R w0 w → Pre T a w p.ds (Kept a a0 p.ks (Guarded a p.gd (StepOK P R (T i) w ((execOp a.eval o).run P w)) (T i undef w)))
def Obs (P : Program) (R : World → World → Prop) (T : Nat → Value → World → Prop) (a0 : Act) (w0 : World) : Nat → List Oper → List Plan → Prop
  | i, o :: t, p :: ps => Ob P R T a0 w0 i o p ∧ Obs P R T a0 w0 (i + 1) t ps
  | _, _, _ => True

theorem Pre.out {T : Nat → Value → World → Prop} {a : Act} {w : World} {G : Prop} : ∀ {l : List (Nat × Nat)}, Pre T a w l G → (∀ x ∈ l, T x.1 (a.eval (.tmp x.2)) w) → G
  | [], h, _ => h
  | _ :: _, h, k => Pre.out (h (k _ (by simp))) fun x hx => k x (by simp [hx])
theorem Kept.out {a a0 : Act} {G : Prop} : ∀ {l : List Nat}, Kept a a0 l G → (∀ k ∈ l, a.eval (.tmp k) = a0.eval (.tmp k)) → G
  | [], h, _ => h
  | _ :: _, h, k => Kept.out (h (k _ (by simp))) fun x hx => k x (by simp [hx])

theorem dstB_spec {ops : Array Oper} {j d : Nat} (h : dstB ops j d = true) : ∃ o, ops[j]? = some o ∧ o.dst = some d := by
  unfold dstB at h
  cases ho : ops[j]? with
  | none => simp [ho] at h
  | some o => simp only [ho] at h; exact ⟨o, rfl, by simpa using h⟩
theorem preds_spec {o : Oper} {j : Nat} (h : preds o j = true) : ∃ e ∈ o.after, Region.binds .any e = true ∧ e.on = j := by
  unfold preds at h
  rw [Array.any_eq_true'] at h
  obtain ⟨e, he, h⟩ := h
  simp only [Bool.and_eq_true, beq_iff_eq] at h
  exact ⟨e, he, h.1, h.2⟩
theorem yielded_eval {ops : Array Oper} {a : Act} {g d : Nat} {b : Bool} (h : dstB ops g d = true) : (yielded ops a.tmps g == some b) = true ↔ a.eval (.tmp d) = .bool b := by
  obtain ⟨o, ho, hd⟩ := dstB_spec h
  unfold yielded
  simp only [ho, hd, Option.bind_some, Act.eval]
  cases hv : a.tmps[d]? with
  | none => simp [hv, undef]
  | some v => cases v <;> simp [hv]

section
variable {P : Program} {ops : Array Oper} {R : World → World → Prop} {T : Nat → Value → World → Prop} {a0 : Act} {w0 : World}

structure Inv (ops : Array Oper) (R : World → World → Prop) (T : Nat → Value → World → Prop) (a0 : Act) (w0 : World) (s : Array Bool) (a : Act) (w : World) : Prop where
  size : s.size = ops.size
  closed : ∀ j oj, ops[j]? = some oj → s.getD j false = true → ∀ e ∈ oj.after, Region.binds .any e = true → s.getD e.on false = true
  rel : R w0 w
  tmps : a.tmps.size = a0.tmps.size
  defers : a.defers = a0.defers
  old : ∀ k, (∀ j o, ops[j]? = some o → s.getD j false = true → o.dst ≠ some k) → a.eval (.tmp k) = a0.eval (.tmp k)
  vals : ∀ j o d, ops[j]? = some o → s.getD j false = true → o.dst = some d → T j (a.eval (.tmp d)) w

theorem okB_at {n : Nat} {plan : List Plan} (h : okB ops n plan = true) {i : Nat} {o : Oper} (ho : ops[i]? = some o) : ∃ p, plan[i]? = some p ∧ opB ops n i o p = true := by
  unfold okB at h
  rw [List.all_eq_true] at h
  have := h i (List.mem_range.2 (Array.getElem?_eq_some_iff.1 ho).1)
  rw [ho] at this
  cases hp : plan[i]? with
  | none => simp [hp] at this
  | some p => simp only [hp] at this; exact ⟨p, rfl, this⟩
theorem obs_at {t : List Oper} : ∀ {plan : List Plan} {k : Nat}, Obs P R T a0 w0 k t plan → ∀ {i : Nat} {o : Oper} {p : Plan}, t[i]? = some o → plan[i]? = some p → Ob P R T a0 w0 (k + i) o p := by
  induction t with
  | nil => intro plan k _ i o p h; simp at h
  | cons x t ih =>
    intro plan k h i o p h1 h2
    cases plan with
    | nil => simp at h2
    | cons q ps =>
      cases i with
      | zero => simp at h1 h2; subst h1 h2; exact h.1
      | succ i =>
        have := ih h.2 (i := i) (by simpa using h1) (by simpa using h2)
        rw [show k + (i + 1) = k + 1 + i from by omega]; exact this
theorem eval_put_same {a : Act} {d : Nat} {v : Value} (h : d < a.tmps.size) : (a.put (some d) v).eval (.tmp d) = v := by
  simp [Act.eval, Act.put, h]
theorem Inv.step {s : Array Bool} {a : Act} {w w' : World} {i : Nat} {o : Oper} {v : Value} {n : Nat} {p : Plan} (inv : Inv ops R T a0 w0 s a w) (ht : ∀ a b c, R a b → R b c → R a c) (hmono : ∀ i v w w', T i v w → R w w' → T i v w')
    (hn : a0.tmps.size = n) (hi : i ∈ Region.ready .any ops s) (ho : ops[i]? = some o) (hb : opB ops n i o p = true) (hw : R w w') (hv : T i v w') : Inv ops R T a0 w0 (s.setIfInBounds i true) (a.put o.dst v) w' := by
  obtain ⟨hun, oi, hoi, hall⟩ := mem_ready.1 hi
  rw [ho] at hoi
  obtain rfl : o = oi := by simpa using hoi
  have hsz : i < s.size := by rw [inv.size]; exact (Array.getElem?_eq_some_iff.1 ho).1
  simp only [opB, Bool.and_eq_true] at hb
  obtain ⟨⟨⟨⟨⟨hb1, _⟩, _⟩, _⟩, hb5⟩, _⟩ := hb
  have hset : ∀ j, (s.setIfInBounds i true).getD j false = true → j = i ∨ s.getD j false = true := fun j hj => by
    by_cases e : j = i
    · exact .inl e
    · right; rwa [getD_set_ne false (Ne.symm e)] at hj
  refine ⟨by simp [inv.size], fun j oj hj hl e he hbd => ?_, ht _ _ _ inv.rel hw, ?_, ?_, fun k hk => ?_, fun j oj d hj hl hd => ?_⟩
  · rcases hset j hl with rfl | h
    · rw [ho] at hj; obtain rfl : o = oj := by simpa using hj
      exact getD_set_true (hall e he hbd)
    · exact getD_set_true (inv.closed j oj hj h e he hbd)
  · rw [← inv.tmps]; cases o.dst <;> simp [Act.put]
  · rw [← inv.defers]; cases o.dst <;> simp [Act.put]
  · have h1 : o.dst ≠ some k := hk i o ho (by simp [hsz])
    rw [Act.eval_put fun d hd hx => h1 (by rw [hd]; injection hx with hx; rw [hx])]
    exact inv.old k fun j oj hj hl => hk j oj hj (getD_set_true hl)
  · rcases hset j hl with rfl | h
    · rw [ho] at hj; obtain rfl : o = oj := by simpa using hj
      rw [hd] at hb1 ⊢
      rw [eval_put_same (by rw [inv.tmps, hn]; simpa using hb1)]
      exact hv
    · by_cases e : j = i
      · subst e; rw [getD_both hun] at h; cases h
      · have h1 := (List.all_eq_true.1 hb5) j (List.mem_range.2 (Array.getElem?_eq_some_iff.1 hj).1)
        simp only [hj, Bool.or_eq_true, beq_iff_eq, e, false_or] at h1
        have hne : ∀ d', o.dst = some d' → Operand.tmp d ≠ .tmp d' := fun d' hd' hx => by
          injection hx with hx
          rcases h1 with h1 | h1
          · rw [hd'] at h1; cases h1
          · rw [hd', hd, hx] at h1; simp at h1
        rw [Act.eval_put fun d' hd' => hne d' hd']
        exact hmono _ _ _ _ (inv.vals j oj d hj h hd) hw

theorem done {s : Array Bool} {n : Nat} (hB : ∀ (i : Nat) (o : Oper), ops[i]? = some o → ∃ p, opB ops n i o p = true) (hs : s.size = ops.size) (hr : Region.ready .any ops s = []) : ∀ i, i < ops.size → s.getD i false = true := by
  intro i
  induction i using Nat.strongRecOn with
  | _ i ih =>
    intro hi
    by_cases h : s.getD i false = true
    · exact h
    · exfalso
      have ho : ops[i]? = some ops[i] := by simp [hi]
      have hun : s.getD i true = false := getD_in (by rw [hs]; exact hi) (by simpa using h)
      obtain ⟨p, hb⟩ := hB i _ ho
      simp only [opB, Bool.and_eq_true] at hb
      have h2 := hb.1.1.1.1.2
      rw [Array.all_eq_true'] at h2
      have : i ∈ Region.ready .any ops s := mem_ready.2 ⟨hun, _, ho, fun e he hbd => by
        have h3 := h2 e he
        simp only [hbd, Bool.not_true, Bool.false_or, decide_eq_true_eq] at h3
        exact ih e.on h3 (by omega)⟩
      rw [hr] at this
      cases this
/-- One operation that comes up. -/
theorem op_of {Q : Exit → Act → World → Prop} {K : Act → World → Prop} {ops : Array Oper} {n i : Nat} {o : Oper} {p : Plan} {s : Array Bool} {a : Act} {w : World} (hr : ∀ w, R w w) (inv : Inv ops R T a0 w0 s a w) (hi : i ∈ Region.ready .any ops s) (ho : ops[i]? = some o) (hb : opB ops n i o p = true)
    (hob1 : Ob P R T a0 w0 i o p) (hK : ∀ v w', R w w' → T i v w' → K (a.put o.dst v) w') : wpOp P ops Q i K a w := by
  obtain ⟨hun, oi, hoi, hall⟩ := mem_ready.1 hi
  rw [ho] at hoi
  obtain rfl : o = oi := by simpa using hoi
  have hob1 := hob1 a w inv.rel
  have hb' := hb
  simp only [opB, Bool.and_eq_true] at hb'
  obtain ⟨⟨⟨⟨⟨_, _⟩, hb3⟩, hb4⟩, _⟩, hb6⟩ := hb'
  have hob2 := hob1.out fun x hx => by
    have h1 := List.all_eq_true.1 hb3 x hx
    simp only [Bool.and_eq_true] at h1
    obtain ⟨oj, hoj, hdj⟩ := dstB_spec h1.1
    obtain ⟨e, he, hbd, hon⟩ := preds_spec h1.2
    exact inv.vals x.1 oj x.2 hoj (hon ▸ hall e he hbd) hdj
  have hob3 := hob2.out fun k hk => by
    have h1 := List.all_eq_true.1 hb4 k hk
    refine inv.old k fun j oj hj hl hd => ?_
    have h2 := List.all_eq_true.1 h1 j (List.mem_range.2 (Array.getElem?_eq_some_iff.1 hj).1)
    simp only [hj, Bool.or_eq_true, beq_iff_eq] at h2
    rcases h2 with rfl | h2
    · rw [getD_both hun] at hl; cases hl
    · rcases h2 with h2 | h2
      · rw [hd] at h2; simp at h2
      · obtain ⟨e, he, hbd, hon⟩ := preds_spec h2
        have h3 := inv.closed j oj hj hl e he hbd
        rw [hon, getD_both hun] at h3
        cases h3
  have hyes : StepOK P R (T i) w ((execOp a.eval o).run P w) → Oper.wp P o a w K Q := fun h => by
    unfold Oper.wp
    cases hr : (execOp a.eval o).run P w with
    | ok x w' =>
      rw [hr] at h
      cases x with
      | value u => exact hK _ _ h.1 h.2
      | skip => exact hK _ _ h.1 h.2
      | enter g args =>
        refine Calls.mono h fun e w'' he => ?_
        obtain ⟨v, rfl, h1, h2⟩ := he
        exact hK _ _ h1 h2
      | _ => exact h.elim
    | halt x w' => rw [hr] at h; exact h.elim
  unfold wpOp
  simp only [ho]
  unfold Region.wanted
  cases hg : o.guard with
  | none =>
    simp only [if_true]
    cases hpg : p.gd with
    | none => rw [hpg] at hob3; exact .inl (hyes hob3)
    | some q => simp [hg, hpg] at hb6
  | some q =>
    obtain ⟨g, b⟩ := q
    cases hpg : p.gd with
    | none => simp [hg, hpg] at hb6
    | some q2 =>
      obtain ⟨d, b'⟩ := q2
      simp only [hg, hpg, Bool.and_eq_true, beq_iff_eq] at hb6
      obtain ⟨hb7, rfl⟩ := hb6
      rw [hpg] at hob3
      simp only []
      by_cases hw : (yielded ops a.tmps g == some b) = true
      · rw [if_pos hw]; exact .inl (hyes (hob3.1 ((yielded_eval hb7).1 hw)))
      · rw [if_neg hw]; exact hK _ _ (hr w) (hob3.2 fun h => hw ((yielded_eval hb7).2 h))
theorem any_of {Q : Exit → Act → World → Prop} {n : Nat} {plan : List Plan} {t : List Oper} (hB : okB t.toArray n plan = true) (hn : a0.tmps.size = n) (hr : ∀ w, R w w) (ht : ∀ a b c, R a b → R b c → R a c) (hmono : ∀ i v w w', T i v w → R w w' → T i v w')
    (hob : Obs P R T a0 w0 0 t plan) (hQ : ∀ s a w, Inv t.toArray R T a0 w0 s a w → (∀ i, i < t.toArray.size → s.getD i false = true) → Q .normal a w) :
    ∀ (f : Nat) (s : Array Bool) (a : Act) (w : World), s.toList.count false = f → Inv t.toArray R T a0 w0 s a w → wpAny P .any t.toArray Q f s a w := by
  intro f
  induction f with
  | zero =>
    intro s a w hf inv
    have hr : Region.ready .any t.toArray s = [] := by
      rw [List.eq_nil_iff_forall_not_mem]
      intro i hi
      obtain ⟨hun, o, ho, _⟩ := mem_ready.1 hi
      have hlt : i < s.size := by rw [inv.size]; exact (Array.getElem?_eq_some_iff.1 ho).1
      have h1 : s[i] = false := by simpa [hlt] using hun
      have : false ∈ s.toList := by rw [← h1]; simp
      rw [List.count_eq_zero] at hf
      exact hf this
    exact ⟨hr, hQ s a w inv (done (n := n) (fun i o ho => (okB_at hB ho).imp fun p h => h.2) inv.size hr)⟩
  | succ f ih =>
    intro s a w hf inv
    refine ⟨fun hr => hQ s a w inv (done (n := n) (fun i o ho => (okB_at hB ho).imp fun p h => h.2) inv.size hr), fun i hi => ?_⟩
    obtain ⟨hun, o, ho, hall⟩ := mem_ready.1 hi
    have hlt : i < s.size := by rw [inv.size]; exact (Array.getElem?_eq_some_iff.1 ho).1
    have hcnt : (s.setIfInBounds i true).toList.count false = f := by
      have h1 : s[i] = false := by simpa [hlt] using hun
      rw [Array.toList_setIfInBounds, List.count_set (by simpa using hlt)]
      simp [h1, hf]
    obtain ⟨p, hp, hb⟩ := okB_at hB ho
    have hob1 := obs_at hob (i := i) (by simpa using ho) hp
    rw [Nat.zero_add] at hob1
    exact op_of hr inv hi ho hb hob1 fun v w' h1 h2 => ih _ _ _ hcnt (inv.step ht hmono hn hi ho hb h1 h2)

/-- **Each operation once, whatever order comes.** -/
theorem region {id : Nat} {Q : Exit → Act → World → Prop} {t : List Oper} (n : Nat) (plan : List Plan) (es : List (Nat × Nat)) (ks : List Nat) (hm : P.follows .mixedOrders = true) (hn : a0.tmps.size = n) (hB : okB t.toArray n plan = true) (hE : endB t.toArray es ks = true)
    (hr : ∀ w, R w w) (ht : ∀ a b c, R a b → R b c → R a c) (h0 : R w0 { w0 with drawn := w0.drawn + 1 }) (hmono : ∀ i v w w', T i v w → R w w' → T i v w')
    (hob : Obs P R T a0 w0 0 t plan) (hQ : ∀ a w, R w0 w → a.tmps.size = n → a.defers = a0.defers → Pre T a w es (Kept a a0 ks (Q .normal a w))) : (Code.region id t.toArray true).wp P Q a0 w0 := by
  refine wp_region_any hm (any_of (R := R) (T := T) (a0 := a0) (w0 := w0) hB hn hr ht hmono hob (fun s a w inv hall => ?_) _ _ _ _ (by simp) ⟨by simp, fun j oj _ hl => (by rw [getD_replicate_false] at hl; cases hl), h0, rfl, rfl, fun _ _ => rfl, fun j o d _ hl => (by rw [getD_replicate_false] at hl; cases hl)⟩)
  simp only [endB, Bool.and_eq_true] at hE
  refine ((hQ a w inv.rel (by rw [inv.tmps, hn]) inv.defers).out fun x hx => ?_).out fun k hk => ?_
  · obtain ⟨o, ho, hd⟩ := dstB_spec (List.all_eq_true.1 hE.1 x hx)
    exact inv.vals x.1 o x.2 ho (hall _ (Array.getElem?_eq_some_iff.1 ho).1) hd
  · refine inv.old k fun j o hj _ hd => ?_
    have h1 := List.all_eq_true.1 (List.all_eq_true.1 hE.2 k hk) j (List.mem_range.2 (Array.getElem?_eq_some_iff.1 hj).1)
    simp only [hj] at h1
    rw [hd] at h1
    simp at h1

/-- All of the first h are listed, and no other one. -/
def headS (m h : Nat) : Array Bool := ((List.range m).map fun i => decide (i < h)).toArray
theorem any_tail {Q : Exit → Act → World → Prop} {n h : Nat} {plan : List Plan} {t : List Oper} (hB : okB t.toArray n plan = true) (hn : a0.tmps.size = n) (hh : h < t.toArray.size) (hs : Region.sinkB .any t.toArray h = true) (hc : Region.chainB .any t.toArray h = true)
    (hq : Region.seqB .any t.toArray (t.drop h).length h (headS t.toArray.size h) = true) (hr : ∀ w, R w w) (ht : ∀ a b c, R a b → R b c → R a c) (hmono : ∀ i v w w', T i v w → R w w' → T i v w')
    (hob : Obs P R T a0 w0 0 (t.take h) plan) (hQ : ∀ s a w, Inv t.toArray R T a0 w0 s a w → (∀ i, i < h → s.getD i false = true) → (∀ j, h ≤ j → j < t.toArray.size → s.getD j true = false) → wpList P t.toArray Q (t.drop h) a w) :
    ∀ (f : Nat) (s : Array Bool) (a : Act) (w : World), (s.toList.take h).count false = f → Inv t.toArray R T a0 w0 s a w → (∀ j, h ≤ j → j < t.toArray.size → s.getD j true = false) → wpAny P .any t.toArray Q (f + (t.drop h).length) s a w := by
  intro f
  induction f with
  | zero =>
    intro s a w hf inv htl
    have hall : ∀ i, i < h → s.getD i false = true := fun i hi => by
      have hlt : i < s.size := by rw [inv.size]; omega
      by_cases e : s[i] = true
      · simp [hlt, e]
      · exfalso
        have h1 : s[i] = false := by simpa using e
        have : false ∈ s.toList.take h := by
          rw [List.mem_take_iff_getElem]
          exact ⟨i, by simp; omega, by simpa using h1⟩
        rw [List.count_eq_zero] at hf
        exact hf this
    have hse : s = headS t.toArray.size h := by
      apply Array.ext
      · simp [headS, inv.size]
      · intro i h1 h2
        have hi : i < t.toArray.size := by rw [← inv.size]; exact h1
        simp only [headS, List.getElem_toArray, List.getElem_map, List.getElem_range]
        by_cases e : i < h
        · have := hall i e
          simp only [e, decide_true]
          simpa [h1] using this
        · have := htl i (by omega) hi
          simp only [e, decide_false]
          simpa [h1] using this
    rw [Nat.zero_add]
    exact wpAny_of_seq (t.drop h) h s a w (fun j => by simp [List.getElem?_drop]) (by rw [hse]; exact hq) (hQ s a w inv hall htl)
  | succ f ih =>
    intro s a w hf inv htl
    rw [show f + 1 + (t.drop h).length = (f + (t.drop h).length) + 1 from by omega]
    have hB' : ∀ (i : Nat) (o : Oper), t.toArray[i]? = some o → ∃ p, opB t.toArray n i o p = true := fun i o ho => (okB_at hB ho).imp fun p h => h.2
    refine ⟨fun hr => ?_, fun i hi => ?_⟩
    · have h1 := done hB' inv.size hr h hh
      have h2 := getD_both (htl h (Nat.le_refl _) hh)
      rw [h2] at h1
      cases h1
    · obtain ⟨hun, o, ho, hall⟩ := mem_ready.1 hi
      have hlt : i < s.size := by rw [inv.size]; exact (Array.getElem?_eq_some_iff.1 ho).1
      have hhead : HeadInv .any t.toArray h s := ⟨inv.size, inv.closed, htl⟩
      have hih : i < h := by
        refine Nat.lt_of_not_le fun hle => ?_
        have : 0 < (s.toList.take h).count false := by omega
        rw [List.count_pos_iff, List.mem_take_iff_getElem] at this
        obtain ⟨k, hk, e⟩ := this
        have hk1 : k < h := by simp at hk; omega
        have hk2 : k < s.size := by simp at hk; omega
        have e' : s[k] = false := by simpa using e
        exact tail_waits hs hc hh hhead _ k rfl hk1 (by simp [hk2, e']) i hle hi
      have hcnt : ((s.setIfInBounds i true).toList.take h).count false = f := by
        have h1 : s[i] = false := by simpa [hlt] using hun
        rw [Array.toList_setIfInBounds, List.take_set, List.count_set (by simp; omega)]
        simp [h1, hf]
      obtain ⟨p, hp, hb⟩ := okB_at hB ho
      have hob1 := obs_at hob (i := i) (by rw [List.getElem?_take_of_lt hih]; simpa using ho) hp
      rw [Nat.zero_add] at hob1
      exact op_of hr inv hi ho hb hob1 fun v w' h1 h2 => ih _ _ _ hcnt (inv.step ht hmono hn hi ho hb h1 h2) fun j hj hj' => by
        rw [getD_set_ne true (by omega)]; exact htl j hj hj'
def tailB (t : List Oper) (h : Nat) : Bool := decide (h < t.toArray.size) && Region.sinkB .any t.toArray h && Region.chainB .any t.toArray h && Region.seqB .any t.toArray (t.drop h).length h (headS t.toArray.size h)
def endT (t : List Oper) (h : Nat) (es : List (Nat × Nat)) (ks : List Nat) : Bool :=
  (es.all fun x => decide (x.1 < h) && dstB t.toArray x.1 x.2) && (ks.all fun k => (List.range h).all fun j => match t.toArray[j]? with | some o => o.dst != some k | none => true)
/-- **Each of the first h operations once, whatever order comes; then the rest, one behind the other.** -/
theorem regionT {id : Nat} {Q : Exit → Act → World → Prop} {t : List Oper} (n h : Nat) (plan : List Plan) (es : List (Nat × Nat)) (ks : List Nat) (hm : P.follows .mixedOrders = true) (hn : a0.tmps.size = n) (hB : okB t.toArray n plan = true) (hT : tailB t h = true) (hE : endT t h es ks = true)
    (hr : ∀ w, R w w) (ht : ∀ a b c, R a b → R b c → R a c) (h0 : R w0 { w0 with drawn := w0.drawn + 1 }) (hmono : ∀ i v w w', T i v w → R w w' → T i v w')
    (hob : Obs P R T a0 w0 0 (t.take h) plan) (hQ : ∀ a w, R w0 w → a.tmps.size = n → a.defers = a0.defers → Pre T a w es (Kept a a0 ks (wpList P t.toArray Q (t.drop h) a w))) : (Code.region id t.toArray true).wp P Q a0 w0 := by
  simp only [tailB, Bool.and_eq_true, decide_eq_true_eq] at hT
  obtain ⟨⟨⟨h1, h2⟩, h3⟩, h4⟩ := hT
  have h1' : h < t.length := by simpa using h1
  have hsz : h + (t.drop h).length = t.toArray.size := by simp; omega
  have key := any_tail (Q := Q) (R := R) (T := T) (a0 := a0) (w0 := w0) hB hn h1 h2 h3 h4 hr ht hmono hob (fun s a w inv hall htl => ?_) h (Array.replicate t.toArray.size false) a0 { w0 with drawn := w0.drawn + 1 } (by simp; omega) ⟨by simp, fun j oj _ hl => (by rw [getD_replicate_false] at hl; cases hl), h0, rfl, rfl, fun _ _ => rfl, fun j o d _ hl => (by rw [getD_replicate_false] at hl; cases hl)⟩ (fun j _ hj => getD_in (by simpa using hj) (getD_replicate_false _ _))
  · rw [hsz] at key
    exact wp_region_any hm key
  · simp only [endT, Bool.and_eq_true] at hE
    refine ((hQ a w inv.rel (by rw [inv.tmps, hn]) inv.defers).out fun x hx => ?_).out fun k hk => ?_
    · have h5 := List.all_eq_true.1 hE.1 x hx
      simp only [Bool.and_eq_true, decide_eq_true_eq] at h5
      obtain ⟨o, ho, hd⟩ := dstB_spec h5.2
      exact inv.vals x.1 o x.2 ho (hall _ h5.1) hd
    · refine inv.old k fun j o hj hl hd => ?_
      by_cases e : j < h
      · have h5 := List.all_eq_true.1 (List.all_eq_true.1 hE.2 k hk) j (List.mem_range.2 e)
        simp only [hj] at h5
        rw [hd] at h5
        simp at h5
      · rw [getD_both (htl j (by omega) (Array.getElem?_eq_some_iff.1 hj).1)] at hl
        cases hl

end

/-- The world grew: nothing that was there has changed. -/
def Gr (w w' : World) : Prop := Below w.heap.size w w'
theorem Gr.refl (w : World) : Gr w w := Below.refl _ _
theorem Gr.trans (a b c : World) (h : Gr a b) (k : Gr b c) : Gr a c := Below.trans h (Below.mono k h.size)
theorem Gr.drew (w : World) : Gr w { w with drawn := w.drawn + 1 } := ⟨rfl, rfl, rfl, Nat.le_refl _, fun _ _ => rfl⟩
def tys (Ts : List (Value → World → Prop)) (i : Nat) : Value → World → Prop := Ts.getD i fun _ _ => True
def Mono (V : Value → World → Prop) : Prop := ∀ v w w', V v w → Gr w w' → V v w'
def Monos : List (Value → World → Prop) → Prop
  | [] => True
  | V :: t => Mono V ∧ Monos t
def Is (u : Value) : Value → World → Prop := fun v _ => v = u
theorem Is.mono (u : Value) : Mono (Is u) := fun _ _ _ h _ => h
theorem monos_at : ∀ {Ts : List (Value → World → Prop)}, Monos Ts → ∀ i v w w', tys Ts i v w → Gr w w' → tys Ts i v w'
  | [], _, _, _, _, _, _, _ => trivial
  | _ :: _, h, 0, v, w, w', hv, hg => h.1 v w w' hv hg
  | _ :: _, h, i + 1, v, w, w', hv, hg => monos_at h.2 i v w w' hv hg
/-- The same, in worlds that only grow. -/
theorem regionG {P : Program} {a0 : Act} {w0 : World} {id : Nat} {Q : Exit → Act → World → Prop} {t : List Oper} (Ts : List (Value → World → Prop)) (n : Nat) (plan : List Plan) (es : List (Nat × Nat)) (ks : List Nat) (hm : P.follows .mixedOrders = true) (hn : a0.tmps.size = n)
    (hB : okB t.toArray n plan = true) (hE : endB t.toArray es ks = true) (hmono : Monos Ts) (hob : Obs P Gr (tys Ts) a0 w0 0 t plan) (hQ : ∀ a w, Gr w0 w → a.tmps.size = n → a.defers = a0.defers → Pre (tys Ts) a w es (Kept a a0 ks (Q .normal a w))) : (Code.region id t.toArray true).wp P Q a0 w0 :=
  region (R := Gr) (T := tys Ts) n plan es ks hm hn hB hE Gr.refl Gr.trans (Gr.drew w0) (monos_at hmono) hob hQ
theorem act_ext {a b : Act} (hs : b.tmps.size = a.tmps.size) (hd : b.defers = a.defers) (h : ∀ k, b.eval (.tmp k) = a.eval (.tmp k)) : b = a := by
  obtain ⟨ta, da⟩ := a
  obtain ⟨tb, db⟩ := b
  simp only at hs hd
  subst hd
  congr 1
  apply Array.ext hs
  intro i h1 h2
  have := h i
  simpa [Act.eval, h1, h2] using this
/-- The values of some slots are put, one by one. -/
def puts (a : Act) (es : List (Nat × Nat)) (b : Act) : Act := es.foldl (fun b x => b.put (some x.2) (a.eval (.tmp x.2))) b
theorem puts_eq {a : Act} : ∀ {es : List (Nat × Nat)} {b : Act}, b.tmps.size = a.tmps.size → b.defers = a.defers → (∀ k, b.eval (.tmp k) = a.eval (.tmp k) ∨ k ∈ es.map (·.2)) → puts a es b = a
  | [], b, hs, hd, h => act_ext (b := b) hs hd fun k => by simpa using h k
  | x :: es, b, hs, hd, h => by
    show puts a es (b.put (some x.2) (a.eval (.tmp x.2))) = a
    refine puts_eq (by simp [Act.put, hs]) (by simp [Act.put, hd]) fun k => ?_
    by_cases e : k = x.2
    · left
      subst e
      by_cases hk : x.2 < b.tmps.size
      · exact eval_put_same hk
      · have h1 : a.tmps[x.2]? = none := by simp; omega
        simp [Act.eval, Act.put, h1, Array.setIfInBounds, hk]
    · rw [Act.eval_put fun d hd' hx => e (by injection hd' with hd'; injection hx with hx; exact hx.trans hd'.symm)]
      rcases h k with h1 | h1
      · exact .inl h1
      · rw [List.map_cons, List.mem_cons] at h1
        rcases h1 with h1 | h1
        · exact absurd h1 e
        · exact .inr h1
/-- All slots that the first h operations put are among es. -/
def allB (t : List Oper) (h : Nat) (es : List (Nat × Nat)) : Bool :=
  (es.all fun x => decide (x.1 < h) && dstB t.toArray x.1 x.2) && (List.range h).all fun j => match t.toArray[j]? with | some o => (match o.dst with | some d => es.any fun x => x.2 == d | none => true) | none => true
section
variable {P : Program} {a0 : Act} {w0 : World} {id : Nat} {Q : Exit → Act → World → Prop} {t : List Oper} {R : World → World → Prop} {T : Nat → Value → World → Prop}
theorem inv_end {h : Nat} {es : List (Nat × Nat)} {G : Act → Prop} (hE : allB t h es = true) {s : Array Bool} {a : Act} {w : World} (inv : Inv t.toArray R T a0 w0 s a w) (hall : ∀ i, i < h → s.getD i false = true) (htl : ∀ j, h ≤ j → j < t.toArray.size → s.getD j true = false)
    (hQ : Pre T a w es (G (puts a es a0))) : G a := by
  simp only [allB, Bool.and_eq_true] at hE
  have h1 := hQ.out fun x hx => by
    have h5 := List.all_eq_true.1 hE.1 x hx
    simp only [Bool.and_eq_true, decide_eq_true_eq] at h5
    obtain ⟨o, ho, hd⟩ := dstB_spec h5.2
    exact inv.vals x.1 o x.2 ho (hall _ h5.1) hd
  rw [puts_eq inv.tmps.symm inv.defers.symm fun k => ?_] at h1
  · exact h1
  · by_cases e : k ∈ es.map (·.2)
    · exact .inr e
    · refine .inl (inv.old k fun j o hj hl hd => ?_).symm
      have hjh : j < h := Nat.lt_of_not_le fun hle => by
        rw [getD_both (htl j hle (Array.getElem?_eq_some_iff.1 hj).1)] at hl; cases hl
      have h5 := List.all_eq_true.1 hE.2 j (List.mem_range.2 hjh)
      simp only [hj, hd] at h5
      rw [List.any_eq_true] at h5
      obtain ⟨x, hx, hk⟩ := h5
      exact e (List.mem_map.2 ⟨x, hx, by simpa using hk⟩)
/-- The whole region, each operation once; what is behind it begins with the slots as they are then. -/
theorem regionA (Ts : List (Value → World → Prop)) (n : Nat) (plan : List Plan) (es : List (Nat × Nat)) (hm : P.follows .mixedOrders = true) (hn : a0.tmps.size = n) (hB : okB t.toArray n plan = true) (hE : allB t t.length es = true) (hmono : Monos Ts)
    (hob : Obs P Gr (tys Ts) a0 w0 0 t plan) (hQ : ∀ a w, Gr w0 w → Pre (tys Ts) a w es (Q .normal (puts a es a0) w)) : (Code.region id t.toArray true).wp P Q a0 w0 := by
  refine wp_region_any hm (any_of (R := Gr) (T := tys Ts) (a0 := a0) (w0 := w0) hB hn Gr.refl Gr.trans (monos_at hmono) hob (fun s a w inv hall => ?_) _ _ _ _ (by simp) ⟨by simp, fun j oj _ hl => (by rw [getD_replicate_false] at hl; cases hl), Gr.drew w0, rfl, rfl, fun _ _ => rfl, fun j o d _ hl => (by rw [getD_replicate_false] at hl; cases hl)⟩)
  exact inv_end (G := fun a => Q .normal a w) hE inv (fun i hi => hall i (by simpa using hi)) (fun j h1 h2 => by simp at h2; omega) (hQ a w inv.rel)
/-- The first h operations, each once; then the rest, one behind the other. -/
theorem regionB (Ts : List (Value → World → Prop)) (n h : Nat) (plan : List Plan) (es : List (Nat × Nat)) (hm : P.follows .mixedOrders = true) (hn : a0.tmps.size = n) (hB : okB t.toArray n plan = true) (hT : tailB t h = true) (hE : allB t h es = true) (hmono : Monos Ts)
    (hob : Obs P Gr (tys Ts) a0 w0 0 (t.take h) plan) (hQ : ∀ a w, Gr w0 w → Pre (tys Ts) a w es (wpList P t.toArray Q (t.drop h) (puts a es a0) w)) : (Code.region id t.toArray true).wp P Q a0 w0 := by
  simp only [tailB, Bool.and_eq_true, decide_eq_true_eq] at hT
  obtain ⟨⟨⟨h1, h2⟩, h3⟩, h4⟩ := hT
  have h1' : h < t.length := by simpa using h1
  have hsz : h + (t.drop h).length = t.toArray.size := by simp; omega
  have key := any_tail (Q := Q) (R := Gr) (T := tys Ts) (a0 := a0) (w0 := w0) hB hn h1 h2 h3 h4 Gr.refl Gr.trans (monos_at hmono) hob (fun s a w inv hall htl => inv_end (G := fun a => wpList P t.toArray Q (t.drop h) a w) hE inv hall htl (hQ a w inv.rel)) h (Array.replicate t.toArray.size false) a0 { w0 with drawn := w0.drawn + 1 } (by simp; omega) ⟨by simp, fun j oj _ hl => (by rw [getD_replicate_false] at hl; cases hl), Gr.drew w0, rfl, rfl, fun _ _ => rfl, fun j o d _ hl => (by rw [getD_replicate_false] at hl; cases hl)⟩ (fun j _ hj => getD_in (by simpa using hj) (getD_replicate_false _ _))
  rw [hsz] at key
  exact wp_region_any hm key
end
theorem act_lit {a : Act} {n : Nat} {ds : List Deferred} (hs : a.tmps.size = n) (hd : a.defers = ds) : a = ⟨((List.range n).map fun k => a.eval (.tmp k)).toArray, ds⟩ := by
  obtain ⟨ts, df⟩ := a
  simp only at hs hd
  subst hs hd
  congr 1
  apply Array.ext
  · simp
  · intro i h1 h2
    simp [Act.eval, h1]

/-! What one operation does, from what it reads. -/
section
variable {P : Program} {w : World} {V : Value → World → Prop} {ρ : Operand → Value} {o : Oper}
theorem ok_run {v : Value} (h : (execOp ρ o).run P w = .ok (.value v) w) (hv : V v w) : StepOK P Gr V w ((execOp ρ o).run P w) := by
  rw [h]; exact ⟨Gr.refl w, hv⟩
theorem ok_runW {v : Value} {w' : World} (h : (execOp ρ o).run P w = .ok (.value v) w') (hg : Gr w w') (hv : V v w') : StepOK P Gr V w ((execOp ρ o).run P w) := by
  rw [h]; exact ⟨hg, hv⟩
theorem ok_move {x : Operand} (ho : o.op = .move x) (hv : V (ρ x) w) : StepOK P Gr V w ((execOp ρ o).run P w) := by
  refine ok_run (v := ρ x) ?_ hv
  unfold execOp; simp only [ho]; rfl
theorem ok_assign {x : Operand} (ho : o.op = .assign x) (hv : V (ρ x) w) : StepOK P Gr V w ((execOp ρ o).run P w) := by
  refine ok_run (v := ρ x) ?_ hv
  unfold execOp; simp only [ho]; rfl
theorem ok_pick {c x y : Operand} {b : Bool} (ho : o.op = .pick c x y) (hc : ρ c = .bool b) (hv : V (if b then ρ x else ρ y) w) : StepOK P Gr V w ((execOp ρ o).run P w) := by
  refine ok_run (v := if b then ρ x else ρ y) ?_ hv
  unfold execOp; simp only [ho, hc]; rfl
theorem ok_convert {s d : TypeId} {x : Operand} {u v : Value} (ho : o.op = .convert s d x) (hx : ρ x = u) (hr : (convert s d u).run P w = .ok v w) (hv : V v w) : StepOK P Gr V w ((execOp ρ o).run P w) := by
  refine ok_run (v := v) ?_ hv
  unfold execOp
  simp only [ho, hx]
  simp only [Sem.run_bind, hr]
  rfl
theorem ok_call {a : Act} {f : FuncId} {xs : Array Operand} {ts : Array TypeId} (ho : o.op = .call { callee := .value (.func f), args := xs, argTypes := ts }) (vs : Array Value) (hen : (callFunc f vs).run P w = .ok (.enter f vs) w) (hv : xs.map a.eval = vs)
    (hc : Calls P f vs w fun e w' => ∃ v, e = .returned v ∧ Gr w w' ∧ V v w') : StepOK P Gr V w ((execOp a.eval o).run P w) := by
  obtain ⟨dst, op, ty, pos, after, guard⟩ := o
  simp only at ho
  subst ho
  rw [execOp_call_go, hv]
  have e : #[] ++ vs ++ #[] = vs := by simp
  rw [e, hen]
  exact hc
end
end Gt
end
