/- Rows of ints: made by the call, and read. -/
import Derived.Test.YtfemcofjhcanhaaDoorByt
import Derived.Test.YtfemcofjhcanhaaDoorProg
namespace Gw
open Go Go.RowKit Go.Shelf
def intv (L : List Nat) : List Value := L.map (fun (x : Nat) => Value.int .i64 (x : Int))
theorem intv_len (L : List Nat) : (intv L).length = L.length := by simp [intv]
theorem intv_app (L M : List Nat) : intv (L ++ M) = intv L ++ intv M := by simp [intv]
theorem intv_one (L : List Nat) : ∀ u ∈ intv L, u.oneCell' = true := fun u hu => by
  obtain ⟨x, _, rfl⟩ := List.mem_map.1 hu; rfl
/-- A row of ints that is read. -/
structure InJ (w : World) (A : Option Addr) (c : Nat) (L : List Nat) : Prop where
  sl : ∀ (i x : Nat), L[i]? = some x → ∃ b off, A = some ⟨b, off, none⟩ ∧ w.cell? ⟨b, off + i, none⟩ = some (.int .i64 (x : Int))
  cap : L.length ≤ c
  none_ : A = none → c = 0
/-- A row of ints of the call's own. -/
def OwnJ (w : World) (base : Nat) (e : TypeId) (A : Option Addr) (c : Nat) (L : List Nat) : Prop := w.ownsRow base e 1 (.slice A L.length c) L.length (intv L)
section
variable {w w' : World} {base c : Nat} {e : TypeId} {A : Option Addr} {L : List Nat}
theorem InJ.below (h : InJ w A c L) (hb : Below w.heap.size w w') : InJ w' A c L := ⟨fun i x hx => by
  obtain ⟨b, off, h1, h2⟩ := h.sl i x hx
  exact ⟨b, off, h1, (hb.cell (p := ⟨b, off + i, none⟩) (cell_lt h2)).trans h2⟩, h.cap, h.none_⟩
theorem InJ.drewN (h : InJ w A c L) (n : Nat) : InJ (w.drewN n) A c L := ⟨h.sl, h.cap, h.none_⟩
theorem InJ.at_ (h : InJ w A c L) {k : Nat} (hk : k < L.length) : ∃ x b off, L[k]? = some x ∧ A = some ⟨b, off, none⟩ ∧ w.cell? ⟨b, off + k, none⟩ = some (.int .i64 (x : Int)) := by
  obtain ⟨b, off, h1, h2⟩ := h.sl k L[k] (List.getElem?_eq_getElem hk)
  exact ⟨L[k], b, off, List.getElem?_eq_getElem hk, h1, h2⟩
theorem OwnJ.mk' {v : Value} {n : Nat} (h : w.ownsRow base e 1 v n (intv L)) : ∃ A c, v = .slice A L.length c ∧ OwnJ w base e A c L := by
  have hn : n = L.length := by have := h.1; rw [intv_len] at this; omega
  subst hn
  rcases h.2 with ⟨hv, h0⟩ | ⟨g, cap, cur, hv, _⟩
  · subst hv; exact ⟨none, 0, by rw [h0], by unfold OwnJ; rw [h0] at h ⊢; exact h⟩
  · subst hv; exact ⟨_, cap, rfl, h⟩
theorem OwnJ.nil (w : World) (base : Nat) (e : TypeId) : OwnJ w base e none 0 [] := World.ownsRow_nil w base e 1
theorem OwnJ.alloc (h : OwnJ w base e A c L) (o : Obj) : OwnJ (w.alloc o) base e A c L := World.ownsRow.alloc h o
theorem OwnJ.drewN (h : OwnJ w base e A c L) (n : Nat) : OwnJ (w.drewN n) base e A c L := h
theorem OwnJ.rebase {base' : Nat} (h : OwnJ w base e A c L) (hb : base' ≤ base) : OwnJ w base' e A c L := by
  refine ⟨h.1, ?_⟩
  rcases h.2 with h0 | ⟨g, cap, cur, hv, hg, h0⟩
  · exact .inl h0
  · exact .inr ⟨g, cap, cur, hv, by omega, h0⟩
theorem OwnJ.grown {row : Option Nat} (h : OwnJ w base e A c L) (hg : w.grownBy w' row) (hr : ∀ b cs, base ≤ b → w.heap[b]? = some (.cells cs e (0, 0)) → row ≠ some b) : OwnJ w' base e A c L := by
  refine ⟨h.1, ?_⟩
  rcases h.2 with h0 | ⟨g, cap, cur, hv, hb, hgb, h0⟩
  · exact .inl h0
  · exact .inr ⟨g, cap, cur, hv, hb, (hg.block g (Array.getElem?_eq_some_iff.1 hgb).1 (fun e => hr g cur hb hgb e.symm)).trans hgb, h0⟩
theorem OwnJ.turned {row : Option Nat} (h : OwnJ w base e A c L) (hg : w.grownBy w' row) (hr : ∀ r, row = some r → ∃ o : Obj, w.heap[r]? = some o ∧ o.isCells = false) : OwnJ w' base e A c L :=
  h.grown hg (fun b cs _ h2 e => by obtain ⟨o, h3, h4⟩ := hr b e; rw [h2] at h3; injection h3 with h3; subst h3; cases h4)
theorem OwnJ.kept (h : OwnJ w base e A c L) (hb : Below w.heap.size w w') : OwnJ w' base e A c L :=
  h.grown (row := none) ⟨hb.os, hb.tape, hb.output, hb.size, fun k hk _ => hb.block k hk⟩ (fun _ _ _ _ e => by cases e)
theorem OwnJ.at_ (h : OwnJ w base e A c L) {i l : Nat} (hi : L[i]? = some l) : ∃ g, A = some ⟨g, 0, none⟩ ∧ base ≤ g ∧ w.cell? ⟨g, i, none⟩ = some (.int .i64 (l : Int)) := by
  have hl : i < L.length := (List.getElem?_eq_some_iff.1 hi).1
  rcases h.2 with ⟨_, h0⟩ | ⟨g, cap, cur, hv, hb, _⟩
  · omega
  · injection hv with hA hn hc
    subst hA hc
    refine ⟨g, rfl, hb, ?_⟩
    rw [World.ownsRow.cellAt h i (by omega)]
    simp [intv, hi]
theorem OwnJ.inn (h : OwnJ w base e A c L) : InJ w A c L := by
  refine ⟨fun i x hx => ?_, ?_, ?_⟩
  · obtain ⟨g, hA, _, hc⟩ := h.at_ hx
    exact ⟨g, 0, hA, by rw [Nat.zero_add]; exact hc⟩
  · rcases h.2 with ⟨hv, h0⟩ | ⟨g, cap, cur, hv, hb, hg, hnc, hm, hs, ht⟩
    · omega
    · injection hv with hA hn hc; omega
  · intro hA
    rcases h.2 with ⟨hv, h0⟩ | ⟨g, cap, cur, hv, _⟩
    · injection hv
    · injection hv with h1; rw [hA] at h1; cases h1
/-- Behind an append of one number. -/
theorem OwnJ.app {W : World} {v' : Value} {m x : Nat} (hown : w'.ownsRow base e 1 v' (m + 1) (intv L ++ [.int .i64 (x : Int)])) (_ : W = w) : ∃ A' c', v' = .slice A' (L ++ [x]).length c' ∧ OwnJ w' base e A' c' (L ++ [x]) := by
  have : intv L ++ [.int .i64 (x : Int)] = intv (L ++ [x]) := by simp [intv]
  rw [this] at hown
  exact OwnJ.mk' hown
end
end Gw
namespace Go.Proofs.YtfemcofjhcanhaaDoor
open Go.RowKit Go.Shelf Gw Pol
theorem pint_info : (Tryd.prog.info? 3).map (fun i => (i.zero, i.size, i.bytes)) = some (some (.int .i64 0), 1, 8) := by kernel_rfl
end Go.Proofs.YtfemcofjhcanhaaDoor
