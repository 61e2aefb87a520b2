/- Numbers and bytes, one behind the other: as rows of bytes; and a writer, a reader, a book in memory: a block that holds a slice and a flag, and the bytes that the slice names. -/
import Derived.Test.YtabalhhodcajmaaTpm
namespace Gw
open Go Go.RowKit Go.Shelf Pol

/-! In numbers. -/
def i4 (v : Nat) : List Nat := [v / 16777216 % 256, v / 65536 % 256, v / 256 % 256, v % 256]
/-- The bytes of a number. -/
def num (n : Int) : List Nat := i4 (n + 2).toNat
def okN (n : Int) : Bool := decide (-2 ≤ n ∧ n ≤ 2147483645)
/-- Bytes, with their number. -/
def lay (l : List Nat) : List Nat := l.length / 256 % 256 :: l.length % 256 :: l
def okL (l : List Nat) : Bool := decide (l.length ≤ 65535)
theorem num_len (n : Int) : (num n).length = 4 := rfl
theorem lay_len (l : List Nat) : (lay l).length = l.length + 2 := rfl
theorem num_bb (n : Int) : BB (num n) := by
  intro x hx
  simp only [num, i4, List.mem_cons, List.not_mem_nil, or_false] at hx
  omega
theorem lay_bb {l : List Nat} (h : BB l) : BB (lay l) := BB.cons (by omega) (BB.cons (by omega) h)
/-- The number that the first four bytes are, and that of the first two. -/
def w4 (l : List Nat) : Nat := co l 0 * 16777216 + co l 1 * 65536 + co l 2 * 256 + co l 3
def w2 (l : List Nat) : Nat := co l 0 * 256 + co l 1
/-- Is there a number? Are there bytes? -/
def hasN (l : List Nat) : Prop := 4 ≤ l.length ∧ co l 0 < 128
def hasL (l : List Nat) : Prop := 2 ≤ l.length ∧ w2 l + 2 ≤ l.length
instance (l : List Nat) : Decidable (hasN l) := by unfold hasN; infer_instance
instance (l : List Nat) : Decidable (hasL l) := by unfold hasL; infer_instance
/-- What is read: the number, what is left, and whether something is amiss. -/
def rdN (l : List Nat) (bad : Bool) : Int × List Nat × Bool := if hasN l then ((w4 l : Int) - 2, l.drop 4, bad) else (0, [], true)
def rdL (l : List Nat) (bad : Bool) : List Nat × List Nat × Bool := if hasL l then ((l.drop 2).take (w2 l), l.drop (2 + w2 l), bad) else ([], [], true)
theorem w4_lt {l : List Nat} (h : BB l) (h0 : co l 0 < 128) : w4 l < 2147483648 := by
  have h1 := h.co 1
  have h2 := h.co 2
  have h3 := h.co 3
  unfold w4; omega
theorem w2_lt {l : List Nat} (h : BB l) : w2 l < 65536 := by
  have h1 := h.co 0
  have h2 := h.co 1
  unfold w2; omega
theorem okN_iff {n : Int} : okN n = true ↔ -2 ≤ n ∧ n ≤ 2147483645 := by unfold okN; rw [decide_eq_true_eq]
theorem okN_not {n : Int} (h : ¬ okN n = true) : n < -2 ∨ 2147483645 < n := by rw [okN_iff] at h; omega
theorem okL_iff {l : List Nat} : okL l = true ↔ l.length ≤ 65535 := by unfold okL; rw [decide_eq_true_eq]
theorem num_co (n : Int) (r : List Nat) : co (num n ++ r) 0 = (n + 2).toNat / 16777216 % 256 ∧ co (num n ++ r) 1 = (n + 2).toNat / 65536 % 256 ∧ co (num n ++ r) 2 = (n + 2).toNat / 256 % 256 ∧ co (num n ++ r) 3 = (n + 2).toNat % 256 := ⟨rfl, rfl, rfl, rfl⟩
theorem rdN_num {n : Int} (h : okN n = true) (r : List Nat) (bad : Bool) : rdN (num n ++ r) bad = (n, r, bad) := by
  rw [okN_iff] at h
  obtain ⟨h0, h1, h2, h3⟩ := num_co n r
  have hh : hasN (num n ++ r) := ⟨by rw [List.length_append, num_len]; omega, by rw [h0]; omega⟩
  unfold rdN
  rw [if_pos hh]
  have e1 : ((w4 (num n ++ r) : Nat) : Int) - 2 = n := by unfold w4; rw [h0, h1, h2, h3]; omega
  rw [e1]
  rfl
theorem rdL_lay {l : List Nat} (h : okL l = true) (r : List Nat) (bad : Bool) : rdL (lay l ++ r) bad = (l, r, bad) := by
  rw [okL_iff] at h
  have h2 : w2 (lay l ++ r) = l.length := by
    show l.length / 256 % 256 * 256 + l.length % 256 = l.length
    omega
  have hh : hasL (lay l ++ r) := ⟨by rw [List.length_append, lay_len]; omega, by rw [h2, List.length_append, lay_len]; omega⟩
  unfold rdL
  rw [if_pos hh, h2]
  have e : (lay l ++ r).drop 2 = l ++ r := rfl
  rw [← List.drop_drop, e]
  simp
/-- What is put. -/
def wrN (l : List Nat) (bad : Bool) (n : Int) : List Nat × Bool := if okN n then (if bad then ([], true) else (l ++ num n, false)) else ([], true)
def wrL (l : List Nat) (bad : Bool) (b : List Nat) : List Nat × Bool := if okL b then (if bad then ([], true) else (l ++ lay b, false)) else ([], true)
/-- What a book is behind it. -/
def bkN (l : List Nat) (bad : Bool) (n : Int) : List Nat × Bool := if okN n then (l ++ num n, bad) else (l, true)
def bkL (l : List Nat) (bad : Bool) (b : List Nat) : List Nat × Bool := if okL b then (l ++ lay b, bad) else (l, true)

/-! In memory. -/
theorem K2.wk {w w' : World} {p g : Nat} (h : K2 w w' p p) : K2 w w' p g := ⟨h.os, h.tape, h.output, h.size, fun k hk h1 _ => h.block k hk h1 h1⟩
theorem K2.swap {w w' : World} {p g : Nat} (h : K2 w w' p g) : K2 w w' g p := ⟨h.os, h.tape, h.output, h.size, fun k hk h1 h2 => h.block k hk h2 h1⟩
theorem K2.then {w w1 w2 : World} {p g g1 : Nat} (h : K2 w w1 p g) (h' : K2 w1 w2 p g1) (hg : g1 = g ∨ g1 = p ∨ w.heap.size ≤ g1) : K2 w w2 p g := by
  rcases hg with rfl | rfl | hg
  · exact h.trans h' (.inl rfl)
  · exact h.trans h'.wk (.inl rfl)
  · exact h.trans h' (.inr hg)
/-- A slice and a flag in block p, the bytes in block g (or p, if there are none). -/
structure Bx (w : World) (p g : Nat) (l : List Nat) (bad : Bool) : Prop where
  lt : p < w.heap.size
  glt : g < w.heap.size
  flag : w.cell? ⟨p, 1, none⟩ = some (.bool bad)
  fr : ∀ k, w.frozen? ⟨p, k, none⟩ = false
  row : ∃ A c, w.cell? ⟨p, 0, none⟩ = some (.slice A l.length c) ∧ Rw w p g A c l
theorem Bx.keep {w w' : World} {p g : Nat} {l : List Nat} {bad : Bool} (h : Bx w p g l bad) (hp : w'.heap[p]? = w.heap[p]?) (hg : w'.heap[g]? = w.heap[g]?) (hs : w.heap.size ≤ w'.heap.size) : Bx w' p g l bad := by
  obtain ⟨A, c, h1, h2⟩ := h.row
  exact ⟨Nat.lt_of_lt_of_le h.lt hs, Nat.lt_of_lt_of_le h.glt hs, (cell_heap hp).trans h.flag, fun k => (frozen_heap hp).trans (h.fr k), A, c, (cell_heap hp).trans h1, h2.keep (fun _ => hg) hs⟩
theorem Bx.below {w w' : World} {B p g : Nat} {l : List Nat} {bad : Bool} (h : Bx w p g l bad) (hb : Below B w w') (hB : w.heap.size ≤ B) : Bx w' p g l bad :=
  h.keep (hb.block p (by have := h.lt; omega)) (hb.block g (by have := h.glt; omega)) hb.size
/-- Another one's turn. -/
theorem Bx.k2 {w w' : World} {p g q r : Nat} {l : List Nat} {bad : Bool} (h : Bx w p g l bad) (hk : K2 w w' q r) (h1 : p ≠ q) (h2 : p ≠ r) (h3 : g ≠ q) (h4 : g ≠ r) : Bx w' p g l bad :=
  h.keep (hk.block p h.lt h1 h2) (hk.block g h.glt h3 h4) hk.size
theorem Bx.bb {w : World} {p g : Nat} {l : List Nat} {bad : Bool} (h : Bx w p g l bad) : BB l := by
  obtain ⟨A, c, _, h2⟩ := h.row
  exact h2.inn.bb
theorem Bx.new (w : World) (t : TypeId) : Bx (w.alloc (.cells #[.slice none 0 0, .bool false] t)) w.heap.size w.heap.size [] false :=
  ⟨by simp, by simp, World.cell?_alloc_new w #[.slice none 0 0, .bool false] t 1, fun k => by unfold World.frozen?; rw [show (⟨w.heap.size, k, none⟩ : Addr).block = w.heap.size from rfl, heap_alloc_new w _]; simp, none, 0, World.cell?_alloc_new w #[.slice none 0 0, .bool false] t 0, .inl ⟨rfl, rfl, rfl, rfl⟩⟩
/-- The slice is turned. -/
theorem Bx.put {w : World} {p g : Nat} {L : List Nat} {bad : Bool} (hp : p < w.heap.size) (hg : g < w.heap.size) (hu : w.cell? ⟨p, 1, none⟩ = some (.bool bad)) (hf : ∀ k, w.frozen? ⟨p, k, none⟩ = false) {v0 : Value} (h0 : w.cell? ⟨p, 0, none⟩ = some v0)
    {A : Option Addr} {c N : Nat} (hN : N = L.length) (hR : Rw w p g A c L) : Bx (w.setCell ⟨p, 0, none⟩ (.slice A N c)) p g L bad :=
  ⟨by simpa using hp, by simpa using hg, (World.cell?_setCell_other _ _ _ _ (by simp)).trans hu, fun k => by rw [World.frozen?_setCell]; exact hf k, A, c, by rw [← hN]; exact World.cell?_setCell_same _ _ _ h0, hR.keep (fun h => heap_set_other w p 0 g _ h) (by simp)⟩
/-- The flag is turned. -/
theorem Bx.turn {w : World} {p g : Nat} {L : List Nat} {bad : Bool} (h : Bx w p g L bad) (b : Bool) : Bx (w.setCell ⟨p, 1, none⟩ (.bool b)) p g L b := by
  obtain ⟨A, c, h1, h2⟩ := h.row
  exact ⟨by simpa using h.lt, by simpa using h.glt, World.cell?_setCell_same _ _ _ h.flag, fun k => by rw [World.frozen?_setCell]; exact h.fr k, A, c, (World.cell?_setCell_other _ _ _ _ (by simp)).trans h1, h2.keep (fun h => heap_set_other w p 1 g _ h) (by simp)⟩
/-- The slice at A reads as l, and lies neither in block p nor in block g. -/
def SlA (w : World) (p g : Nat) (A : Option Addr) (l : List Nat) : Prop :=
  ∀ (i x : Nat), l[i]? = some x → x < 256 ∧ ∃ b off, A = some ⟨b, off, none⟩ ∧ (b ≠ p ∧ b ≠ g) ∧ b < w.heap.size ∧ w.cell? ⟨b, off + i, none⟩ = some (.int .u8 (x : Int))
theorem SlA.sl {w : World} {p g : Nat} {A : Option Addr} {l : List Nat} (h : SlA w p g A l) : Sl w w.heap.size A l := fun i x hx => by
  obtain ⟨h1, b, off, h2, _, h3, h4⟩ := h i x hx
  exact ⟨h1, b, off, h2, h3, h4⟩
theorem Sl.aw {w : World} {B p g : Nat} {A : Option Addr} {l : List Nat} (h : Sl w B A l) (hp : B ≤ p) (hg : B ≤ g) : SlA w p g A l := fun i x hx => by
  obtain ⟨h1, b, off, h2, h3, h4⟩ := h i x hx
  exact ⟨h1, b, off, h2, by omega, cell_lt h4, h4⟩
theorem SlA.k2 {w w' : World} {p g g' : Nat} {A : Option Addr} {l : List Nat} (h : SlA w p g A l) (hk : K2 w w' p g) (hg : g' = g ∨ g' = p ∨ w.heap.size ≤ g') : SlA w' p g' A l := fun i x hx => by
  obtain ⟨h1, b, off, h2, ⟨h3, h5⟩, h4, h6⟩ := h i x hx
  exact ⟨h1, b, off, h2, ⟨h3, by omega⟩, Nat.lt_of_lt_of_le h4 hk.size, (cell_heap (hk.block b h4 h3 h5)).trans h6⟩
theorem SlA.bb {w : World} {p g : Nat} {A : Option Addr} {l : List Nat} (h : SlA w p g A l) : BB l := h.sl.bb
theorem K2.alloc (w : World) (o : Obj) (p g : Nat) : K2 w (w.alloc o) p g := K2.ofBelow ((Below.refl w.heap.size w).alloc (Nat.le_refl _) o) (Nat.le_refl _)
theorem Bx.alloc {w : World} {p g : Nat} {l : List Nat} {bad : Bool} (h : Bx w p g l bad) (o : Obj) : Bx (w.alloc o) p g l bad := h.below ((Below.refl w.heap.size w).alloc (Nat.le_refl _) o) (Nat.le_refl _)
theorem Bx.drewN {w : World} {p g : Nat} {l : List Nat} {bad : Bool} (h : Bx w p g l bad) (n : Nat) : Bx (w.drewN n) p g l bad := ⟨h.lt, h.glt, h.flag, h.fr, h.row.imp fun _ h => h.imp fun _ h => ⟨h.1, h.2.keep (fun _ => rfl) (Nat.le_refl _)⟩⟩
theorem Bx.drew {w : World} {p g : Nat} {l : List Nat} {bad : Bool} (h : Bx w p g l bad) : Bx w.drew p g l bad := ⟨h.lt, h.glt, h.flag, h.fr, h.row.imp fun _ h => h.imp fun _ h => ⟨h.1, h.2.keep (fun _ => rfl) (Nat.le_refl _)⟩⟩
theorem K2.drewN {w w' : World} {p g : Nat} (h : K2 w w' p g) (n : Nat) : K2 w (w'.drewN n) p g := ⟨h.os, h.tape, h.output, h.size, h.block⟩
theorem K2.drew {w w' : World} {p g : Nat} (h : K2 w w' p g) : K2 w w'.drew p g := ⟨h.os, h.tape, h.output, h.size, h.block⟩
/-- A new block of bytes, as a slice. -/
theorem Sl.lit (w : World) (e : TypeId) (l : List Nat) (h : BB l) : Sl (w.alloc (.cells (bys l).toArray e)) (w.heap.size + 1) (some ⟨w.heap.size, 0, none⟩) l := fun i x hx =>
  ⟨h x (List.mem_of_getElem? hx), w.heap.size, 0, rfl, by omega, by rw [Nat.zero_add, World.cell?_alloc_new, List.getElem?_toArray]; exact bys_at hx⟩
end Gw
