/- A range over a function that hands out memory, and whose rounds may leave: what is handed out is told of the world in which the round begins, and of what came ahead of it. -/
import Derived.Test.YtmcfkgjkfceomaaRfm
import Derived.Test.YtmcfkgjkfceomaaPpi
namespace Gq
open Go Go.RowKit

section
variable {P : Program} {n : Nat}

/-- The function's contract: in whatever world it hands x out, Rd x holds of that world, and Lk of what came ahead and x; where a round leaves, nothing more is done. -/
def SeqMemX {α : Type} (n : Nat) (P : Program) (gf : Nat) (lb : Array Value) (encs : α → Array Value) (Rd : α → World → Prop) (Kp : World → World → Prop) (Lk : List α → α → Prop) (S : List α → Prop) (w : World) : Prop :=
  ∀ (l : Nat) (J Jx : List α → World → Prop) (W : World), Below w.heap.size w W → (∀ s A B, J s A → A.grownBy B none → J s B) →
    (∀ pre x W1, J pre W1 → Rd x W1 → Lk pre x → YieldAt Fence.wide (n - 1) P l (encs x) W1 fun e W' => (e = .returned (.bool true) ∧ J (pre ++ [x]) W' ∧ Kp W1 W') ∨ (e = .returned (.bool false) ∧ Jx (pre ++ [x]) W')) →
    J [] W → CallsIn Fence.wide n P gf (#[.func (.yield l) #[] #[]] ++ lb) W fun e W' => (∃ v, e = .returned v) ∧ ((∃ xs, S xs ∧ J xs W') ∨ (∃ xs, Jx xs W'))

/-- How a round is left. -/
def memPostX {α : Type} (Kp : World → World → Prop) (I : List α → World → Prop) (Ix : Code → List α → World → Prop) (xs : List α) (W : World) : Exit → Act → World → Prop
  | .normal, _, W' => KeepsOthers W W' ∧ Kp W W' ∧ I xs W'
  | .exit id, _, W' => KeepsOthers W W' ∧ Ix (.exit id) xs W'
  | _, _, _ => False

theorem range_memX {α : Type} {g : Operand} {ps : Array Tmp} {assign body : Code} {Q : Exit → Act → World → Prop} {a : Act} {w : World} (h1 : 1 ≤ n) {gf : Nat} {lb : Array Value} (hg : a.eval g = .func (.func gf) #[] lb)
    (eg : ∀ args w, (callFunc gf args).run P w = .ok (.enter gf args) w) {encs : α → Array Value} {Rd : α → World → Prop} {Kp : World → World → Prop} {Lk : List α → α → Prop} {S : List α → Prop} (hseq : SeqMemX (n - 1) P gf lb encs Rd Kp Lk S w)
    (hKt : ∀ {A B C : World}, Kp A B → Kp B C → Kp A C) (hKb : ∀ (W : World) (l : Nat) (o o' : Obj), w.heap.size ≤ l → W.heap[l]? = some o → o.isCells = false → Kp W (W.putObj l o')) (hps : ∀ x, (encs x).size = ps.size)
    (hRd : OwnFrom w.heap.size Rd) (I : List α → World → Prop) (Ix : Code → List α → World → Prop) (hI : OwnFrom w.heap.size I) (hIx : ∀ c, OwnFrom w.heap.size (Ix c)) (h0 : I [] w) (a₁ : α → Act)
    (hassign : ∀ (l : Nat) (x : α) (W : World) (K : Act → World → Prop), K (a₁ x) W →
      assign.wpIn (Fence.wide.inRound l) (n - 1 - 1) P (Exit.then K (fun _ _ _ => False)) { tmps := (ps.zip (encs x)).foldl (fun t (p, v) => t.setIfInBounds p v) a.tmps, defers := [] } W)
    (hbody : ∀ (l : Nat) (pre : List α) (x : α) (W : World), I pre W → Rd x W → Lk pre x → body.wpIn (Fence.wide.inRound l) (n - 1 - 1) P (memPostX Kp I Ix (pre ++ [x]) W) (a₁ x) W)
    (hdone : ∀ (D : Nat) (xs : List α) (W : World), w.heap.size ≤ D → S xs → I xs W → W.heap[D]? = some (.deferred (some [])) → Q .normal { a with defers := { target := .collected D, args := #[] } :: a.defers } W)
    (hstop : ∀ (D : Nat) (c : Code) (xs : List α) (W : World), w.heap.size ≤ D → Ix c xs W → W.heap[D]? = some (.deferred (some [])) → c.wpIn Fence.wide n P Q { a with defers := { target := .collected D, args := #[] } :: a.defers } W) :
    (Code.rangeFunc g ps assign body).wpIn Fence.wide n P Q a w := by
  refine wpIn_rangeFunc fun fn hfn => ?_
  obtain ⟨rc, hrc⟩ : ∃ rc : LoopState → Option Code → Loop, rc = fun st pe => { state := st, pending := pe, fn, tmps := a.tmps, params := ps, assign, body, defers := w.heap.size } := ⟨_, rfl⟩
  obtain ⟨W1, hW1⟩ : ∃ W1, W1 = (w.alloc (.deferred (some []))).alloc (.loop (rc .ready none)) := ⟨_, rfl⟩
  have hsz : W1.heap.size = w.heap.size + 2 := by rw [hW1]; simp
  have hL1 : W1.heap[w.heap.size + 1]? = some (.loop (rc .ready none)) := by
    have := World.alloc_heap_new (w.alloc (.deferred (some []))) (.loop (rc .ready none)); rw [World.size_alloc] at this; rw [hW1]; exact this
  have hK1 : W1.heap[w.heap.size]? = some (.deferred (some [])) := by
    rw [hW1]; exact (Below.heap_alloc _ _ _ (by simp)).trans (World.alloc_heap_new w _)
  have hI1 : I [] W1 := by rw [hW1]; exact hI.alloc _ (hI.alloc _ h0)
  have hb1 : Below w.heap.size w W1 := by rw [hW1]; exact ((Below.refl _ w).alloc (Nat.le_refl _) _).alloc (by simp) _
  refine ⟨w.heap.size + 1, [{ target := .collected w.heap.size, args := #[] }], W1, { target := .fn (.func gf) lb, args := #[.func (.yield (w.heap.size + 1)) #[] #[]] }, W1, gf, #[.func (.yield (w.heap.size + 1)) #[] #[]] ++ lb, W1, ?_, ?_, ?_, ?_, fun _ => h1, ?_⟩
  · rw [hW1, hrc]; exact run_enterLoop_outer _ _ _ _ _
  · simp only [resolve, hg]; simp [go_sem]
  · intro _ _; exact trivial
  · simp [invoke, go_sem, eg]
  · refine (hseq (w.heap.size + 1) (fun pre W => I pre W ∧ W.heap[w.heap.size + 1]? = some (.loop (rc .ready none)) ∧ W.heap[w.heap.size]? = some (.deferred (some [])))
      (fun pre W => ∃ c, Ix c pre W ∧ W.heap[w.heap.size + 1]? = some (.loop (rc .done (some c))) ∧ W.heap[w.heap.size]? = some (.deferred (some []))) W1 hb1 ?_ ?_ ⟨hI1, hL1, hK1⟩).mono ?_
    · rintro s A B ⟨h2, h3, h4⟩ hgr
      refine ⟨hI s A B none h2 hgr (fun r e => by cases e), ?_, ?_⟩
      · exact (hgr.block _ (Array.getElem?_eq_some_iff.1 h3).1 (by simp)).trans h3
      · exact (hgr.block _ (Array.getElem?_eq_some_iff.1 h4).1 (by simp)).trans h4
    · rintro pre x W ⟨hi, hl, hk⟩ hrd hlk
      have hlt := (Array.getElem?_eq_some_iff.1 hl).1
      have hy := run_yield (P := P) (args := encs x) hl (by rw [hrc]; exact hps x)
      rw [hrc] at hy
      obtain ⟨W2, hW2⟩ : ∃ W2, W2 = W.putObj (w.heap.size + 1) (.loop { rc .ready none with state := .busy }) := ⟨_, rfl⟩
      have hl2 : W2.heap[w.heap.size + 1]? = some (.loop { rc .ready none with state := .busy }) := by rw [hW2]; exact World.putObj_heap_same hlt
      have hk2 : W2.heap[w.heap.size]? = some (.deferred (some [])) := by rw [hW2]; exact (World.putObj_heap_other (by omega)).trans hk
      have hq2 : Kp W W2 := by rw [hW2]; exact hKb _ _ _ _ (by omega) hl rfl
      have hi2 : I pre W2 := by rw [hW2]; exact hI.putObj _ hi (by omega) hl rfl
      have hr2 : Rd x W2 := by rw [hW2]; exact hRd.putObj _ hrd (by omega) hl rfl
      refine ⟨fn, _, assign, body, hy, roundIn_of_wpIn hfn (hassign _ x W _ ⟨W2, by rw [hW2]; exact run_beginRound hl (by rw [hrc]), ?_⟩)⟩
      refine wpIn_mono (hbody _ pre x W2 hi2 hr2 hlk) ?_
      have fin : ∀ (jump : Option Code) (W3 : World), KeepsOthers W2 W3 →
          (Instr.endRound (w.heap.size + 1) jump).run P W3 = .ok (.bool jump.isNone) (W3.putObj (w.heap.size + 1) (.loop (rc (if jump.isNone then .ready else .done) jump))) ∧
          W3.heap[w.heap.size + 1]? = some (.loop { rc .ready none with state := .busy }) ∧
          (W3.putObj (w.heap.size + 1) (.loop (rc (if jump.isNone then .ready else .done) jump))).heap[w.heap.size + 1]? = some (.loop (rc (if jump.isNone then .ready else .done) jump)) ∧
          (W3.putObj (w.heap.size + 1) (.loop (rc (if jump.isNone then .ready else .done) jump))).heap[w.heap.size]? = some (.deferred (some [])) := fun jump W3 hk3 => by
        have hl3 := hk3.same _ _ hl2 rfl
        have := run_endRound (P := P) jump hl3
        rw [hrc] at this ⊢
        exact ⟨this, by rw [hrc] at hl3; exact hl3, World.putObj_heap_same (Array.getElem?_eq_some_iff.1 hl3).1, (World.putObj_heap_other (by omega)).trans (hk3.same _ _ hk2 rfl)⟩
      intro e a3 W3 hp
      cases e with
      | normal =>
        obtain ⟨hk3, hq3, hi3⟩ := hp
        obtain ⟨hr, hl3, hl4, hk4⟩ := fin none W3 hk3
        exact ⟨_, _, hr, .inl ⟨rfl, ⟨hI.putObj _ hi3 (by omega) hl3 rfl, hl4, hk4⟩, hKt (hKt hq2 hq3) (hKb _ _ _ _ (by omega) hl3 rfl)⟩⟩
      | exit id =>
        obtain ⟨hk3, hi3⟩ := hp
        obtain ⟨hr, hl3, hl4, hk4⟩ := fin (some (.exit id)) W3 hk3
        exact ⟨_, _, hr, .inr ⟨rfl, .exit id, (hIx _).putObj _ hi3 (by omega) hl3 rfl, hl4, hk4⟩⟩
      | _ => exact hp.elim
    · rintro e W2 ⟨⟨v, rfl⟩, (⟨xs, hS, hi, hl, hk⟩ | ⟨pre, c, hi, hl, hk⟩)⟩
      · exact ⟨none, _, by have := run_endLoop (P := P) hl (by rw [hrc]; simp); rw [hrc] at this; exact this, hdone _ xs _ (Nat.le_refl _) hS (hI.putObj _ hi (by omega) hl rfl) ((World.putObj_heap_other (by omega)).trans hk)⟩
      · exact ⟨some c, _, by have := run_endLoop (P := P) hl (by rw [hrc]; simp); rw [hrc] at this; exact this, hstop _ c pre _ (Nat.le_refl _) ((hIx c).putObj _ hi (by omega) hl rfl) ((World.putObj_heap_other (by omega)).trans hk)⟩
end

/-- Blocks of cells stand, but those that X names (by number and type). -/
structure KeepX (X : Nat → TypeId → Prop) (W W' : World) : Prop where
  size : W.heap.size ≤ W'.heap.size
  same : ∀ b cs e z, ¬ X b e → W.heap[b]? = some (.cells cs e z) → W'.heap[b]? = some (.cells cs e z)
section
variable {X : Nat → TypeId → Prop} {A B C : World}
theorem KeepX.refl (W : World) : KeepX X W W := ⟨Nat.le_refl _, fun _ _ _ _ _ h => h⟩
theorem KeepX.trans (h : KeepX X A B) (k : KeepX X B C) : KeepX X A C := ⟨Nat.le_trans h.size k.size, fun b cs e z h1 h2 => k.same b cs e z h1 (h.same b cs e z h1 h2)⟩
theorem KeepX.below (h : Below A.heap.size A B) : KeepX X A B := ⟨h.size, fun b _ _ _ _ h2 => (h.block b (Array.getElem?_eq_some_iff.1 h2).1).trans h2⟩
theorem KeepX.by {g : Option Nat} (h : A.grownBy B g) (hx : ∀ r, g = some r → ∀ cs e z, A.heap[r]? = some (.cells cs e z) → X r e) : KeepX X A B := ⟨h.size, fun b cs e z h1 h2 => (h.block b (Array.getElem?_eq_some_iff.1 h2).1 (fun e' => h1 (hx b e'.symm cs e z h2))).trans h2⟩
theorem KeepX.put {l : Nat} {W : World} {o o' : Obj} (h : W.heap[l]? = some o) (hc : o.isCells = false) : KeepX X W (W.putObj l o') := ⟨by simp, fun b cs e z _ h2 => by
  by_cases e' : b = l
  · subst e'; rw [h] at h2; injection h2 with h2; subst h2; cases hc
  · exact (World.putObj_heap_other e').trans h2⟩
theorem KeepX.set {g k : Nat} {v : Value} (hx : ∀ e, X g e) (W : World) : KeepX X W (W.setCell ⟨g, k, none⟩ v) :=
  ⟨((Below.refl 0 W).setCell (p := ⟨g, k, none⟩) (Nat.zero_le _) v).size, fun b _ e _ h1 h2 => (Below.heap_setCell W ⟨g, k, none⟩ v b (fun e' => h1 (e' ▸ hx e))).trans h2⟩
theorem KeepX.cell {b o : Nat} {v : Value} (h : KeepX X A B) (hv : A.cell? ⟨b, o, none⟩ = some v) (hb : ∀ e, ¬ X b e) : B.cell? ⟨b, o, none⟩ = some v := by
  obtain ⟨ob, h1, h2⟩ := cells_of_cell hv
  cases ob with
  | cells cs e z => exact (World.cell?_of_block (w := A) (a := ⟨b, o, none⟩) ((h.same b cs e z (hb e) h1).trans h1.symm)).trans hv
  | _ => cases h2
theorem KeepX.field {b : Nat} (h : KeepX X A B) (hF : Go.Proofs.Ytmcfkgjkfceomaa.IsField A b) (hb : ∀ e, ¬ X b e) : Go.Proofs.Ytmcfkgjkfceomaa.IsField B b := fun o ho => by
  obtain ⟨ob, h1, h2⟩ := cells_of_cell (hF o ho).1
  cases ob with
  | cells cs e z => exact ⟨h.cell (hF o ho).1 hb, (World.frozen?_of_block (w := A) (a := ⟨b, o, none⟩) ((h.same b cs e z (hb e) h1).trans h1.symm)).trans (hF o ho).2⟩
  | _ => cases h2
theorem KeepX.sl {n : Nat} {ad : Option Addr} {l : List Nat} (h : KeepX X A B) (hs : Gw.Sl A n ad l) (hn : ∀ b e, b < n → ¬ X b e) : Gw.Sl B n ad l := fun i x hx => by
  obtain ⟨h1, b, off, h2, h3, h4⟩ := hs i x hx
  exact ⟨h1, b, off, h2, h3, h.cell h4 (fun e => hn b e h3)⟩
theorem KeepX.inn {n c : Nat} {ad : Option Addr} {l : List Nat} (h : KeepX X A B) (hs : Gw.In A n ad c l) (hn : ∀ b e, b < n → ¬ X b e) : Gw.In B n ad c l := ⟨h.sl hs.sl hn, hs.cap, hs.none_⟩
theorem KeepX.own {base c : Nat} {e : TypeId} {ad : Option Addr} {l : List Nat} (h : KeepX X A B) (hs : Gw.Own A base e ad c l) (hb : ∀ b, base ≤ b → ¬ X b e) : Gw.Own B base e ad c l := by
  refine ⟨⟨hs.1.1, ?_⟩, hs.2⟩
  rcases hs.1.2 with h0 | ⟨k, cap, cur, hv, h1, h2, h3⟩
  · exact .inl h0
  · exact .inr ⟨k, cap, cur, hv, h1, h.same k _ _ _ (hb k h1) h2, h3⟩
end
end Gq
