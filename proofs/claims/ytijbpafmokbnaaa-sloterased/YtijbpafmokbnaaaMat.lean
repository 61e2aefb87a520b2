/- Rows of bytes in memory: those that are read, and a table of the call's own that is turned. -/
import Derived.Test.YtijbpafmokbnaaaSol
import Derived.Test.YtijbpafmokbnaaaByt
namespace Gw
open Go Go.RowKit Go.Shelf

/-- Blocks stand, but those from lo on that are below hi. -/
structure Kt (lo hi : Nat) (w w' : World) : Prop where
  os : w'.os = w.os
  tape : w'.tape = w.tape
  output : w'.output = w.output
  size : w.heap.size ≤ w'.heap.size
  block : ∀ k, k < w.heap.size → ¬ (lo ≤ k ∧ k < hi) → w'.heap[k]? = w.heap[k]?
theorem Kt.refl (lo hi : Nat) (w : World) : Kt lo hi w w := ⟨rfl, rfl, rfl, Nat.le_refl _, fun _ _ _ => rfl⟩
theorem Kt.trans {lo hi : Nat} {a b c : World} (h : Kt lo hi a b) (k : Kt lo hi b c) : Kt lo hi a c :=
  ⟨k.os.trans h.os, k.tape.trans h.tape, k.output.trans h.output, Nat.le_trans h.size k.size, fun i h1 h2 => (k.block i (Nat.lt_of_lt_of_le h1 h.size) h2).trans (h.block i h1 h2)⟩
theorem Kt.ofBelow {lo hi : Nat} {w w' : World} (h : Below w.heap.size w w') : Kt lo hi w w' := ⟨h.os, h.tape, h.output, h.size, fun k hk _ => h.block k hk⟩
theorem Kt.drewN {lo hi : Nat} {a w : World} (h : Kt lo hi a w) (n : Nat) : Kt lo hi a (w.drewN n) := ⟨h.os, h.tape, h.output, h.size, h.block⟩
theorem Kt.drew {lo hi : Nat} {a w : World} (h : Kt lo hi a w) : Kt lo hi a w.drew := ⟨h.os, h.tape, h.output, h.size, h.block⟩
theorem Kt.alloc {lo hi : Nat} {a w : World} (h : Kt lo hi a w) (o : Obj) : Kt lo hi a (w.alloc o) := h.trans (Kt.ofBelow ((Below.refl _ _).alloc (Nat.le_refl _) o))
theorem Kt.set {lo hi : Nat} {a w : World} (h : Kt lo hi a w) {p : Addr} (hp : lo ≤ p.block ∧ p.block < hi) (u : Value) : Kt lo hi a (w.setCell p u) :=
  h.trans ⟨rfl, rfl, rfl, by simp [World.setCell], fun k _ hk => Below.heap_setCell _ _ _ _ (fun e => hk (by rw [e]; exact hp))⟩
/-- A store into a block that was not there. -/
theorem Kt.setNew {lo hi : Nat} {a w : World} (h : Kt lo hi a w) {p : Addr} (hp : a.heap.size ≤ p.block) (u : Value) : Kt lo hi a (w.setCell p u) :=
  ⟨h.os, h.tape, h.output, by simp [World.setCell]; exact h.size, fun k h1 hk => (Below.heap_setCell _ _ _ _ (by omega)).trans (h.block k h1 hk)⟩
theorem Kt.below {lo hi : Nat} {w w' : World} (h : Kt lo hi w w') (hl : lo ≤ w.heap.size) : Below lo w w' := ⟨h.os, h.tape, h.output, h.size, fun k hk => h.block k (by omega) (by omega)⟩
theorem Kt.cell {lo hi : Nat} {w w' : World} (h : Kt lo hi w w') {b o : Nat} {v : Value} (hc : w.cell? ⟨b, o, none⟩ = some v) (hb : ¬ (lo ≤ b ∧ b < hi)) : w'.cell? ⟨b, o, none⟩ = some v :=
  (World.cell?_of_block (w := w) (a := ⟨b, o, none⟩) (h.block b (cell_lt hc) hb)).trans hc
theorem Row.kt {lo hi b n : Nat} {w w' : World} {f : Nat → Value} (hr : Row w b n f) (h : Kt lo hi w w') (hb : ¬ (lo ≤ b ∧ b < hi)) : Row w' b n f := fun o ho =>
  ⟨h.cell (hr o ho).1 hb, (World.frozen?_of_block (w := w) (a := ⟨b, o, none⟩) (h.block b (cell_lt (hr o ho).1) hb)).trans (hr o ho).2⟩
theorem Row.other {b n g k : Nat} {w : World} {f : Nat → Value} (hr : Row w b n f) (hb : b ≠ g) (v : Value) : Row (w.setCell ⟨g, k, none⟩ v) b n f := fun o ho => by
  refine ⟨?_, by rw [World.frozen?_setCell]; exact (hr o ho).2⟩
  rw [World.cell?_setCell_other _ _ _ _ (fun h => hb (by cases h; rfl))]
  exact (hr o ho).1
theorem Own.kt {lo hi : Nat} {w w' : World} {base : Nat} {e : TypeId} {A : Option Addr} {c : Nat} {l : List Nat} (h : Own w base e A c l) (hk : Kt lo hi w w') (hb : hi ≤ base) : Own w' base e A c l := by
  refine ⟨⟨h.1.1, ?_⟩, h.2⟩
  rcases h.1.2 with h0 | ⟨g, cap, cur, hv, hg, hgb, h0⟩
  · exact .inl h0
  · exact .inr ⟨g, cap, cur, hv, hg, (hk.block g (Array.getElem?_eq_some_iff.1 hgb).1 (by omega)).trans hgb, h0⟩

/-- Rows that are read: row i is l i, at A' i. -/
structure MIn (W : World) (B : Nat) (A : Option Addr) (c R : Nat) (A' : Nat → Option Addr) (c' : Nat → Nat) (l : Nat → List Nat) : Prop where
  rd : ∀ i, i < R → ∃ b off, A = some ⟨b, off, none⟩ ∧ b < B ∧ W.cell? ⟨b, off + i, none⟩ = some (.slice (A' i) (l i).length (c' i)) ∧ In W B (A' i) (c' i) (l i)
  cap : R ≤ c
  none_ : A = none → c = 0
section
variable {W W' : World} {B c R : Nat} {A : Option Addr} {A' : Nat → Option Addr} {c' : Nat → Nat} {l : Nat → List Nat}
theorem MIn.below (h : MIn W B A c R A' c' l) (hb : Below B W W') : MIn W' B A c R A' c' l :=
  ⟨fun i hi => by
    obtain ⟨b, off, h1, h2, h3, h4⟩ := h.rd i hi
    exact ⟨b, off, h1, h2, (hb.cell (p := ⟨b, off + i, none⟩) h2).trans h3, h4.below hb⟩, h.cap, h.none_⟩
theorem MIn.more {B' : Nat} (h : MIn W B A c R A' c' l) (hB : B ≤ B') : MIn W B' A c R A' c' l :=
  ⟨fun i hi => by
    obtain ⟨b, off, h1, h2, h3, h4⟩ := h.rd i hi
    exact ⟨b, off, h1, by omega, h3, h4.more hB⟩, h.cap, h.none_⟩
theorem MIn.drewN (h : MIn W B A c R A' c' l) (n : Nat) : MIn (W.drewN n) B A c R A' c' l := h.below (Below.drewN (Below.refl _ _) n)
theorem MIn.row (h : MIn W B A c R A' c' l) {i : Nat} (hi : i < R) : In W B (A' i) (c' i) (l i) := by
  obtain ⟨b, off, h1, h2, h3, h4⟩ := h.rd i hi
  exact h4
theorem MIn.bb (h : MIn W B A c R A' c' l) {i : Nat} (hi : i < R) : Pol.BB (l i) := (h.row hi).bb
/-- Row i, and byte j of it. -/
theorem MIn.at_ (h : MIn W B A c R A' c' l) {i j : Nat} (hi : i < R) (hj : j < (l i).length) :
    ∃ b off b' off' c0, A = some ⟨b, off, none⟩ ∧ W.cell? ⟨b, off + i, none⟩ = some (.slice (some ⟨b', off', none⟩) (l i).length c0) ∧ W.cell? ⟨b', off' + j, none⟩ = some (.int .u8 (Pol.co (l i) j : Int)) ∧ Pol.co (l i) j < 256 := by
  obtain ⟨b, off, h1, h2, h3, h4⟩ := h.rd i hi
  obtain ⟨x, b', off', hx, hx2, ha, _, hc⟩ := h4.sl.at_ hj
  rw [ha] at h3
  rw [co_of' hx]
  exact ⟨b, off, b', off', _, h1, h3, hc, hx2⟩
end

/-- A table of the call's own: row i, n bytes M i, lies in block bs i; the rows' slices lie in block g. -/
structure Tab (W : World) (lo hi g : Nat) (bs cp : Nat → Nat) (M : Sv.Mx) (R n : Nat) : Prop where
  out : Row W g R (fun i => .slice (some ⟨bs i, 0, none⟩) n (cp i))
  inn : ∀ i, i < R → Row W (bs i) n (fun j => .int .u8 (M i j : Int))
  inj : ∀ i j, i < R → j < R → bs i = bs j → i = j
  ne : ∀ i, i < R → bs i ≠ g
  glo : lo ≤ g ∧ g < hi
  blo : ∀ i, i < R → lo ≤ bs i ∧ bs i < hi
  cap : ∀ i, i < R → n ≤ cp i
  his : hi ≤ W.heap.size
section
variable {W W' : World} {lo hi g R n : Nat} {bs cp : Nat → Nat} {M N : Sv.Mx}
theorem Tab.below {B : Nat} (h : Tab W lo hi g bs cp M R n) (hb : Below B W W') (hB : hi ≤ B) : Tab W' lo hi g bs cp M R n :=
  ⟨h.out.below hb (by have := h.glo; omega), fun i hi' => (h.inn i hi').below hb (by have := h.blo i hi'; omega), h.inj, h.ne, h.glo, h.blo, h.cap, Nat.le_trans h.his hb.size⟩
theorem Tab.drewN (h : Tab W lo hi g bs cp M R n) (k : Nat) : Tab (W.drewN k) lo hi g bs cp M R n := h.below (Below.drewN (Below.refl _ _) k) h.his
theorem Tab.alloc (h : Tab W lo hi g bs cp M R n) (o : Obj) : Tab (W.alloc o) lo hi g bs cp M R n := h.below ((Below.refl _ _).alloc (Nat.le_refl _) o) h.his
theorem Tab.setOld {p : Addr} (h : Tab W lo hi g bs cp M R n) (hp : hi ≤ p.block) (u : Value) : Tab (W.setCell p u) lo hi g bs cp M R n := h.below ((Below.refl hi _).setCell hp u) (Nat.le_refl _)
theorem Tab.congr (h : Tab W lo hi g bs cp M R n) (e : ∀ i j, i < R → j < n → M i j = N i j) : Tab W lo hi g bs cp N R n :=
  ⟨h.out, fun i hi => (h.inn i hi).congr fun j hj => by rw [e i j hi hj], h.inj, h.ne, h.glo, h.blo, h.cap, h.his⟩
theorem Tab.put (h : Tab W lo hi g bs cp M R n) {i j : Nat} (hi' : i < R) (hj : j < n) (y : Nat) :
    Tab (W.setCell ⟨bs i, j, none⟩ (.int .u8 (y : Int))) lo hi g bs cp (fun i' j' => if i' = i ∧ j' = j then y else M i' j') R n := by
  refine ⟨h.out.other (fun e => h.ne i hi' e.symm) _, fun i' hi2 => ?_, h.inj, h.ne, h.glo, h.blo, h.cap, by simp [World.setCell]; exact h.his⟩
  by_cases e : i' = i
  · subst e
    refine ((h.inn i' hi2).set hj _).congr fun o ho => ?_
    by_cases e2 : o = j
    · simp [e2]
    · simp [e2]
  · refine ((h.inn i' hi2).other (fun e2 => e (h.inj _ _ hi2 hi' e2)) _).congr fun o ho => ?_
    simp [e]
/-- Which row stands where behind a swap. -/
def sw (k r : Nat) (f : Nat → Nat) : Nat → Nat := fun i => if i = k then f r else if i = r then f k else f i
theorem Tab.swap (h : Tab W lo hi g bs cp M R n) {k r : Nat} (hk : k < R) (hr : r < R) :
    Tab ((W.setCell ⟨g, k, none⟩ (.slice (some ⟨bs r, 0, none⟩) n (cp r))).setCell ⟨g, r, none⟩ (.slice (some ⟨bs k, 0, none⟩) n (cp k))) lo hi g (sw k r bs) (sw k r cp) (Sv.swp M k r) R n := by
  have hne : ∀ i, i < R → sw k r bs i ≠ g := fun i hi => by unfold sw; split; exact h.ne _ hr; split; exact h.ne _ hk; exact h.ne _ hi
  refine ⟨((h.out.set hk _).set hr _).congr fun i hi => ?_, fun i hi => ?_, fun i j hi hj e => ?_, hne, h.glo, fun i hi => ?_, fun i hi => ?_, by simp [World.setCell]; exact h.his⟩
  · unfold sw
    by_cases e1 : i = r
    · subst e1
      by_cases e2 : i = k
      · subst e2; simp
      · simp [e2]
    · by_cases e2 : i = k
      · subst e2; simp [e1]
      · simp [e1, e2]
  · refine Row.other (Row.other ?_ (hne i hi) _) (hne i hi) _
    unfold sw Sv.swp
    by_cases e2 : i = k
    · subst e2; simp only [if_true]; exact h.inn r hr
    · by_cases e1 : i = r
      · subst e1; simp only [if_neg e2, if_true]; exact h.inn k hk
      · simp only [if_neg e2, if_neg e1]; exact h.inn i hi
  · unfold sw at e
    by_cases i1 : i = k
    · by_cases j1 : j = k
      · omega
      · by_cases j2 : j = r
        · simp only [if_pos i1, if_neg j1, if_pos j2] at e; have := h.inj _ _ hr hk e; omega
        · simp only [if_pos i1, if_neg j1, if_neg j2] at e; have := h.inj _ _ hr hj e; omega
    · by_cases i2 : i = r
      · by_cases j1 : j = k
        · simp only [if_neg i1, if_pos i2, if_pos j1] at e; have := h.inj _ _ hk hr e; omega
        · by_cases j2 : j = r
          · omega
          · simp only [if_neg i1, if_pos i2, if_neg j1, if_neg j2] at e; have := h.inj _ _ hk hj e; omega
      · by_cases j1 : j = k
        · simp only [if_neg i1, if_neg i2, if_pos j1] at e; have := h.inj _ _ hi hr e; omega
        · by_cases j2 : j = r
          · simp only [if_neg i1, if_neg i2, if_neg j1, if_pos j2] at e; have := h.inj _ _ hi hk e; omega
          · simp only [if_neg i1, if_neg i2, if_neg j1, if_neg j2] at e; exact h.inj _ _ hi hj e
  · unfold sw; split; exact h.blo _ hr; split; exact h.blo _ hk; exact h.blo _ hi
  · unfold sw; split; exact h.cap _ hr; split; exact h.cap _ hk; exact h.cap _ hi
end
end Gw
