/- A tape's memory: a block that holds a slice and a count, and the bytes that the slice names, from some place of a block of their own on. -/
import Derived.Deep.Upon
import Derived.Lib.SliceRun
import Derived.Test.YtijbpafmokbnaaaByt
namespace Gw
open Go Go.RowKit Go.Shelf Pol

/-- All that was there stands, blocks p and g aside. -/
structure K2 (w w' : World) (p g : Nat) : Prop where
  os : w'.os = w.os
  tape : w'.tape = w.tape
  output : w'.output = w.output
  size : w.heap.size ≤ w'.heap.size
  block : ∀ k, k < w.heap.size → k ≠ p → k ≠ g → w'.heap[k]? = w.heap[k]?
theorem K2.refl (w : World) (p g : Nat) : K2 w w p g := ⟨rfl, rfl, rfl, Nat.le_refl _, fun _ _ _ _ => rfl⟩
theorem K2.ofBelow {w w' : World} {B p g : Nat} (h : Below B w w') (hB : w.heap.size ≤ B) : K2 w w' p g := ⟨h.os, h.tape, h.output, h.size, fun k hk _ _ => h.block k (by omega)⟩
theorem K2.trans {w w1 w2 : World} {p g g1 : Nat} (h : K2 w w1 p g) (h' : K2 w1 w2 p g1) (hg : g1 = g ∨ w.heap.size ≤ g1) : K2 w w2 p g :=
  ⟨h'.os.trans h.os, h'.tape.trans h.tape, h'.output.trans h.output, Nat.le_trans h.size h'.size, fun k hk h1 h2 => (h'.block k (Nat.lt_of_lt_of_le hk h.size) h1 (by omega)).trans (h.block k hk h1 h2)⟩
theorem K2.below {w w' : World} {B p g : Nat} (h : K2 w w' p g) (hB : B ≤ w.heap.size) (hp : B ≤ p) (hg : B ≤ g) : Below B w w' :=
  ⟨h.os, h.tape, h.output, h.size, fun k hk => h.block k (by omega) (by omega) (by omega)⟩
theorem heap_set_other (w : World) (p o k : Nat) (v : Value) (h : k ≠ p) : (w.setCell ⟨p, o, none⟩ v).heap[k]? = w.heap[k]? := by
  unfold World.setCell
  simp only [Array.getElem?_modify]
  rw [if_neg (fun e => h e.symm)]
theorem K2.set (w : World) (p g o : Nat) (v : Value) : K2 w (w.setCell ⟨p, o, none⟩ v) p g :=
  ⟨rfl, rfl, rfl, by simp, fun k _ h1 _ => heap_set_other w p o k v h1⟩
theorem cell_heap {w w' : World} {b o : Nat} (h : w'.heap[b]? = w.heap[b]?) : w'.cell? ⟨b, o, none⟩ = w.cell? ⟨b, o, none⟩ := by
  unfold World.cell?; simp only [h]
theorem frozen_heap {w w' : World} {b o : Nat} (h : w'.heap[b]? = w.heap[b]?) : w'.frozen? ⟨b, o, none⟩ = w.frozen? ⟨b, o, none⟩ := by
  unfold World.frozen?; simp only [h]
theorem K2.sets (w : World) (p g o : Nat) (vs : List Value) : K2 w (w.setCells g o vs) p g :=
  have h := World.keptBut_setCells g (may := fun q => q.block = g) vs o w (fun _ _ => rfl)
  have hs : ∀ (vs : List Value) (o : Nat) (w : World), (w.setCells g o vs).heap.size = w.heap.size ∧ (w.setCells g o vs).tape = w.tape := by
    intro vs
    induction vs with
    | nil => exact fun _ _ => ⟨rfl, rfl⟩
    | cons v r ih => intro o w; rw [World.setCells]; exact ⟨(ih _ _).1.trans (by simp), (ih _ _).2.trans rfl⟩
  ⟨World.os_setCells w g o vs, (hs vs o w).2, World.output_setCells w g o vs, by rw [(hs vs o w).1]; exact Nat.le_refl _, fun k hk _ h2 => World.heap_setCells_other w g o vs hk h2⟩
theorem size_sets (g : Nat) : ∀ (vs : List Value) (o : Nat) (w : World), (w.setCells g o vs).heap.size = w.heap.size := by
  intro vs
  induction vs with
  | nil => exact fun _ _ => rfl
  | cons v r ih => intro o w; rw [World.setCells]; exact (ih _ _).trans (by simp)
theorem Own.k2 {w w' : World} {base p g : Nat} {e : TypeId} {A : Option Addr} {c : Nat} {l : List Nat} (h : Own w base e A c l) (hk : K2 w w' p g) (hp : ∀ o, A ≠ some ⟨p, o, none⟩) (hg : ∀ o, A ≠ some ⟨g, o, none⟩) : Own w' base e A c l := by
  refine ⟨⟨h.1.1, ?_⟩, h.2⟩
  rcases h.1.2 with h0 | ⟨q, cap, cur, hv, hb, hq, rest⟩
  · exact .inl h0
  · injection hv with hA hn hc
    subst hA
    exact .inr ⟨q, cap, cur, by rw [hc], hb, (hk.block q (Array.getElem?_eq_some_iff.1 hq).1 (fun e => hp 0 (by rw [e])) (fun e => hg 0 (by rw [e]))).trans hq, rest⟩
/-- A slice of one's own lies in no block below. -/
theorem Own.nb {w : World} {base k : Nat} {e : TypeId} {A : Option Addr} {c : Nat} {l : List Nat} (h : Own w base e A c l) (hk : k < base) : ∀ o, A ≠ some ⟨k, o, none⟩ := by
  rintro o rfl
  have := h.1.lt k rfl
  omega

/-- Bytes in block g from place off on: l, and room for c of them. -/
structure Ro (w : World) (g off c : Nat) (l : List Nat) : Prop where
  lt : g < w.heap.size
  cell : ∀ (i x : Nat), l[i]? = some x → x < 256 ∧ w.cell? ⟨g, off + i, none⟩ = some (.int .u8 (x : Int))
  room : ∀ j, j < c → (w.cell? ⟨g, off + j, none⟩).isSome = true ∧ w.frozen? ⟨g, off + j, none⟩ = false
  cap : l.length ≤ c
theorem Ro.keep {w w' : World} {g off c : Nat} {l : List Nat} (h : Ro w g off c l) (hg : w'.heap[g]? = w.heap[g]?) (hs : w.heap.size ≤ w'.heap.size) : Ro w' g off c l :=
  ⟨Nat.lt_of_lt_of_le h.lt hs, fun i x hx => by rw [cell_heap hg]; exact h.cell i x hx, fun j hj => by rw [cell_heap hg, frozen_heap hg]; exact h.room j hj, h.cap⟩
theorem Ro.inn {w : World} {g off c : Nat} {l : List Nat} (h : Ro w g off c l) : In w w.heap.size (some ⟨g, off, none⟩) c l :=
  ⟨fun i x hx => ⟨(h.cell i x hx).1, g, off, rfl, h.lt, (h.cell i x hx).2⟩, h.cap, fun e => by cases e⟩
theorem Ro.bb {w : World} {g off c : Nat} {l : List Nat} (h : Ro w g off c l) : BB l := h.inn.bb
theorem Ro.nums {w : World} {g off c : Nat} {l : List Nat} (h : Ro w g off c l) : ∀ j u, (bys l)[j]? = some u → w.cell? ((⟨g, off, none⟩ : Addr).add j) = some u := fun j u hj => by
  obtain ⟨x, hx, rfl⟩ := bys_get hj
  rw [addr_add]; exact (h.cell j x hx).2
/-- The first k are passed over. -/
theorem Ro.drop {w : World} {g off c : Nat} {l : List Nat} (h : Ro w g off c l) (k : Nat) (hk : k ≤ l.length) : Ro w g (off + k) (c - k) (l.drop k) :=
  ⟨h.lt, fun i x hx => by rw [List.getElem?_drop] at hx; have := h.cell _ x hx; rwa [Nat.add_assoc], fun j hj => by have := h.room (k + j) (by omega); rwa [Nat.add_assoc], by have := h.cap; rw [List.length_drop]; omega⟩
/-- The first k are wiped, and passed over. -/
theorem Ro.wiped {w : World} {g off c : Nat} {l : List Nat} (h : Ro w g off c l) (k : Nat) (hk : k ≤ l.length) (vs : List Value) (hv : vs.length = k) : Ro (w.setCells g off vs) g (off + k) (c - k) (l.drop k) := by
  have hd := h.drop k hk
  refine ⟨by rw [size_sets]; exact h.lt, fun i x hx => ?_, fun j hj => ?_, hd.cap⟩
  · rw [World.cell?_setCells_out g vs off w ⟨g, off + k + i, none⟩ (fun _ _ => by right; show off + vs.length ≤ off + k + i; omega)]; exact hd.cell i x hx
  · rw [World.cell?_setCells_out g vs off w ⟨g, off + k + j, none⟩ (fun _ _ => by right; show off + vs.length ≤ off + k + j; omega), World.frozen?_setCells]; exact hd.room j hj

/-- The slice of a tape: none, or bytes of a block of its own. -/
def Rw (w : World) (p g : Nat) (A : Option Addr) (c : Nat) (l : List Nat) : Prop :=
  (A = none ∧ c = 0 ∧ l = [] ∧ g = p) ∨ (g ≠ p ∧ ∃ off, A = some ⟨g, off, none⟩ ∧ Ro w g off c l)
theorem Rw.keep {w w' : World} {p g c : Nat} {A : Option Addr} {l : List Nat} (h : Rw w p g A c l) (hg : g ≠ p → w'.heap[g]? = w.heap[g]?) (hs : w.heap.size ≤ w'.heap.size) : Rw w' p g A c l := by
  rcases h with h | ⟨h1, off, h2, h3⟩
  · exact .inl h
  · exact .inr ⟨h1, off, h2, h3.keep (hg h1) hs⟩
theorem Rw.inn {w : World} {p g c : Nat} {A : Option Addr} {l : List Nat} (h : Rw w p g A c l) : In w w.heap.size A c l := by
  rcases h with ⟨rfl, rfl, rfl, _⟩ | ⟨h1, off, rfl, h3⟩
  · exact ⟨Sl.nil, Nat.le_refl _, fun _ => rfl⟩
  · exact h3.inn

/-- A tape: l is left, u were used. -/
structure Tp (w : World) (p g : Nat) (l : List Nat) (u : Nat) : Prop where
  lt : p < w.heap.size
  glt : g < w.heap.size
  used : w.cell? ⟨p, 1, none⟩ = some (.int .i64 (u : Int))
  fr : ∀ k, w.frozen? ⟨p, k, none⟩ = false
  len : l.length ≤ 65536
  row : ∃ A c, w.cell? ⟨p, 0, none⟩ = some (.slice A l.length c) ∧ Rw w p g A c l
theorem Tp.keep {w w' : World} {p g u : Nat} {l : List Nat} (h : Tp w p g l u) (hp : w'.heap[p]? = w.heap[p]?) (hg : w'.heap[g]? = w.heap[g]?) (hs : w.heap.size ≤ w'.heap.size) : Tp w' p g l u := by
  obtain ⟨A, c, h1, h2⟩ := h.row
  exact ⟨Nat.lt_of_lt_of_le h.lt hs, Nat.lt_of_lt_of_le h.glt hs, (cell_heap hp).trans h.used, fun k => (frozen_heap hp).trans (h.fr k), h.len, A, c, (cell_heap hp).trans h1, h2.keep (fun _ => hg) hs⟩
theorem Tp.below {w w' : World} {B p g u : Nat} {l : List Nat} (h : Tp w p g l u) (hb : Below B w w') (hB : w.heap.size ≤ B) : Tp w' p g l u :=
  h.keep (hb.block p (by have := h.lt; omega)) (hb.block g (by have := h.glt; omega)) hb.size
/-- Another tape's turn. -/
theorem Tp.k2 {w w' : World} {p g u q r : Nat} {l : List Nat} (h : Tp w p g l u) (hk : K2 w w' q r) (h1 : p ≠ q) (h2 : p ≠ r) (h3 : g ≠ q) (h4 : g ≠ r) : Tp w' p g l u :=
  h.keep (hk.block p h.lt h1 h2) (hk.block g h.glt h3 h4) hk.size
theorem Tp.bb {w : World} {p g u : Nat} {l : List Nat} (h : Tp w p g l u) : BB l := by
  obtain ⟨A, c, _, h2⟩ := h.row
  exact h2.inn.bb
/-- A new one. -/
theorem Tp.new (w : World) (t : TypeId) : Tp (w.alloc (.cells #[.slice none 0 0, .int .i64 0] t)) w.heap.size w.heap.size [] 0 :=
  ⟨by simp, by simp, World.cell?_alloc_new w #[.slice none 0 0, .int .i64 0] t 1, fun k => by unfold World.frozen?; rw [show (⟨w.heap.size, k, none⟩ : Addr).block = w.heap.size from rfl, heap_alloc_new w _]; simp, Nat.zero_le _, none, 0, World.cell?_alloc_new w #[.slice none 0 0, .int .i64 0] t 0, .inl ⟨rfl, rfl, rfl, rfl⟩⟩

theorem Tp.put {w : World} {p g u : Nat} {L : List Nat} (hp : p < w.heap.size) (hg : g < w.heap.size) (hu : w.cell? ⟨p, 1, none⟩ = some (.int .i64 (u : Int))) (hf : ∀ k, w.frozen? ⟨p, k, none⟩ = false) (hl : L.length ≤ 65536) {v0 : Value} (h0 : w.cell? ⟨p, 0, none⟩ = some v0)
    {A : Option Addr} {c N : Nat} (hN : N = L.length) (hR : Rw w p g A c L) : Tp (w.setCell ⟨p, 0, none⟩ (.slice A N c)) p g L u :=
  ⟨by simpa using hp, by simpa using hg, (World.cell?_setCell_other _ _ _ _ (by simp)).trans hu, fun k => by rw [World.frozen?_setCell]; exact hf k, hl, A, c, by rw [← hN]; exact World.cell?_setCell_same _ _ _ h0, hR.keep (fun h => heap_set_other w p 0 g _ h) (by simp)⟩
theorem Tp.count {w : World} {p g u : Nat} {L : List Nat} (h : Tp w p g L u) (u' : Nat) : Tp (w.setCell ⟨p, 1, none⟩ (.int .i64 (u' : Int))) p g L u' := by
  obtain ⟨A, c, h1, h2⟩ := h.row
  exact ⟨by simpa using h.lt, by simpa using h.glt, World.cell?_setCell_same _ _ _ h.used, fun k => by rw [World.frozen?_setCell]; exact h.fr k, h.len, A, c, (World.cell?_setCell_other _ _ _ _ (by simp)).trans h1, h2.keep (fun h => heap_set_other w p 1 g _ h) (by simp)⟩

/-- What is handed to an append. -/
theorem src_of {P : Program} {w : World} {t e : TypeId} (ht : P.underlying t = some (.slice e)) {B : Nat} {A : Option Addr} {c : Nat} {l : List Nat} (h : Sl w B A l) : Src P 1 t (.slice A l.length c) l.length (bys l) w := by
  cases A with
  | none =>
    have h0 : l = [] := by
      cases l with
      | nil => rfl
      | cons y l' => obtain ⟨_, b, off, hb, _⟩ := h 0 y rfl; cases hb
    subst h0
    exact Src.ofNil w ht c
  | some ad =>
    refine Src.ofSlice w ht ad l.length c (bys l) (by rw [bys_len, Nat.mul_one]) (fun j u hj => ?_) (bys_one l)
    obtain ⟨y, hy, rfl⟩ := bys_get hj
    obtain ⟨_, b, off, hb, _, hcell⟩ := h j y hy
    injection hb with hb
    subst hb
    rw [addr_add]; exact hcell
/-- A tape's slice and bytes behind it. -/
theorem run_tape {P : Program} {w : World} (t ty e : TypeId) (i : TypeInfo) (z : Value) (ht : P.underlying t = some (.slice e)) (hi : P.info? e = some i) (hz : i.zero = some z) (hsize : i.size = 1) (hby : i.bytes = 1) (hzc : z.cells = #[z])
    (p g n c m c' : Nat) (A A' : Option Addr) (l b : List Nat) (hn : n = l.length) (hm : m = b.length) (hR : Rw w p g A c l) (hp : p < w.heap.size) (hg : g < w.heap.size) (hb : Sl w w.heap.size A' b) (hlen : l.length + b.length ≤ 140737488355328) :
    ∃ A2 c2 g2 w', (Builtin.append_ #[t, t] ty #[.slice A n c, .slice A' m c']).run P w = .ok (.slice A2 (l ++ b).length c2) w' ∧ Rw w' p g2 A2 c2 (l ++ b) ∧ (g2 = g ∨ w.heap.size ≤ g2) ∧ g2 < w'.heap.size ∧ K2 w w' p g ∧ w'.heap[p]? = w.heap[p]? := by
  subst hn hm
  have hs : Src P i.size t (.slice A' b.length c') b.length (bys b) w := by rw [hsize]; exact src_of ht hb
  have hbb := hb.bb
  by_cases h0 : b = []
  · subst h0
    have hs0 : Src P i.size t (.slice A' 0 c') 0 [] w := hs
    refine ⟨A, c, g, w, ?_, by rw [List.append_nil]; exact hR, .inl rfl, hg, K2.refl _ _ _, rfl⟩
    rw [List.append_nil]
    exact run_append_nothing w t t ty e i ht hi A l.length c hR.inn.cap _ hs0
  · have hpos : 0 < b.length := List.length_pos_iff.2 h0
    by_cases hr : l.length + b.length ≤ c
    · rcases hR with ⟨_, rfl, _⟩ | ⟨hne, off, rfl, hR⟩
      · omega
      · have hrun := run_append_room_src w t t ty e i ht hi g off l.length c _ b.length (bys b) hs hr (fun j hj => by rw [hsize, Nat.mul_one, Nat.add_assoc]; rw [bys_len] at hj; exact (hR.room _ (by omega)).1) (fun j hj => by rw [hsize, Nat.mul_one, Nat.add_assoc]; rw [bys_len] at hj; exact (hR.room _ (by omega)).2)
        rw [hsize, Nat.mul_one] at hrun
        have hin := World.cell?_setCells_in g (bys b) (off + l.length) w (fun j hj => by rw [Nat.add_assoc]; rw [bys_len] at hj; exact (hR.room _ (by omega)).1)
        have hk := K2.sets w p g (off + l.length) (bys b)
        refine ⟨_, c, g, _, by rw [List.length_append]; exact hrun, .inr ⟨hne, off, rfl, ⟨by rw [size_sets]; exact hg, fun j x hx => ?_, fun j hj => ?_, by rw [List.length_append]; exact hr⟩⟩, .inl rfl, by rw [size_sets]; exact hg, hk, World.heap_setCells_other w g _ _ hp (fun e => hne e.symm)⟩
        · by_cases hjl : j < l.length
          · rw [List.getElem?_append_left hjl] at hx
            rw [World.cell?_setCells_out g (bys b) _ w ⟨g, off + j, none⟩ (fun _ _ => by left; show off + j < off + l.length; omega)]
            exact hR.cell j x hx
          · rw [List.getElem?_append_right (by omega)] at hx
            have hjb : j - l.length < b.length := (List.getElem?_eq_some_iff.1 hx).1
            refine ⟨hbb x (List.mem_of_getElem? hx), ?_⟩
            have h2 := hin (j - l.length) (by rw [bys_len]; exact hjb)
            rw [show off + l.length + (j - l.length) = off + j by omega] at h2
            rw [h2]
            have h3 := bys_at hx
            rw [List.getElem?_eq_getElem (by rw [bys_len]; exact hjb)] at h3
            exact h3
        · rw [World.frozen?_setCells]
          refine ⟨?_, (hR.room j hj).2⟩
          by_cases hj2 : j < l.length ∨ l.length + b.length ≤ j
          · rw [World.cell?_setCells_out g (bys b) _ w ⟨g, off + j, none⟩ (fun _ _ => by show off + j < off + l.length ∨ off + l.length + (bys b).length ≤ off + j; rw [bys_len]; omega)]
            exact (hR.room j hj).1
          · have h2 := hin (j - l.length) (by rw [bys_len]; omega)
            rw [show off + l.length + (j - l.length) = off + j by omega] at h2
            rw [h2]; rfl
    · have hold : (Builtin.firstCells i.size l.length (.slice A l.length c)).run P w.drew = .ok (bys l).toArray w.drew := by
        rcases hR with ⟨rfl, rfl, rfl, _⟩ | ⟨hne, off, rfl, hR⟩
        · exact run_firstCells_none w.drew i.size 0 0 0
        · exact run_firstCells_some w.drew i.size l.length ⟨g, off, none⟩ l.length c (bys l) (by rw [bys_len, hsize, Nat.mul_one]) (by simpa using hR.nums)
      have hbl := hR.inn.bb
      have hrun := run_append_grow_src w t t ty e i z ht hi hz A l.length c (bys l) hold _ b.length (bys b) hs (by omega) (by omega) (growslice_fits (by omega) (by rw [hby]; omega))
      have hge := grownCap_ge w (l.length + b.length) c e
      have hsz : ((bys l ++ bys b).toArray ++ Builtin.zeroCells z.cells (grownCap w (l.length + b.length) c e - (l.length + b.length))).size = grownCap w (l.length + b.length) c e := by
        rw [hzc, Array.size_append]
        simp only [List.size_toArray, List.length_append, bys_len, Builtin.zeroCells]
        simp
        omega
      refine ⟨_, _, w.heap.size, _, by rw [List.length_append]; exact hrun, .inr ⟨by omega, 0, rfl, ⟨by rw [World.size_alloc]; show w.heap.size < w.drew.heap.size + 1; exact Nat.lt_succ_self _, fun j x hx => ?_, fun j hj => ?_, by rw [List.length_append]; exact hge⟩⟩, .inr (Nat.le_refl _), by rw [World.size_alloc]; show w.heap.size < w.drew.heap.size + 1; exact Nat.lt_succ_self _, K2.ofBelow (((Below.refl w.heap.size w).drew).alloc (Nat.le_refl _) _) (Nat.le_refl _), (((Below.refl w.heap.size w).drew).alloc (Nat.le_refl _) _).block p hp⟩
      · refine ⟨(hbl.append hbb) x (List.mem_of_getElem? hx), ?_⟩
        rw [Nat.zero_add]
        refine (World.cell?_alloc_new w.drew _ e j).trans ?_
        have hjl : j < (l ++ b).length := (List.getElem?_eq_some_iff.1 hx).1
        rw [Array.getElem?_append_left (by simp [bys_len] at hjl ⊢; exact hjl)]
        rw [← bys_app, List.getElem?_toArray]
        exact bys_at hx
      · rw [Nat.zero_add]
        refine ⟨?_, by unfold World.frozen?; rw [show (⟨w.heap.size, j, none⟩ : Addr).block = w.drew.heap.size from rfl, heap_alloc_new w.drew _]; simp⟩
        rw [show (⟨w.heap.size, j, none⟩ : Addr) = ⟨w.drew.heap.size, j, none⟩ from rfl, World.cell?_alloc_new w.drew _ e j, Array.getElem?_eq_getElem (by rw [hsz]; exact hj)]
        rfl
/-- The first k of a tape's bytes are wiped. -/
theorem run_wipe {P : Program} {w : World} (t ty e : TypeId) (ht : P.underlying t = some (.slice e)) (hv : ∀ w, (zeroValue e).run P w = .ok (.int .u8 0) w) (p g k c : Nat) (A : Option Addr) (l : List Nat) (hk : k ≤ l.length) (hR : Rw w p g A c l) :
    ∃ w', (Builtin.clear_ #[t] ty #[.slice A k c]).run P w = .ok (.tuple #[]) w' ∧ K2 w w' p g ∧ w'.heap.size = w.heap.size ∧ (g ≠ p → w'.heap[p]? = w.heap[p]? ∨ w.heap.size ≤ p) ∧ (g = p → w' = w) ∧ ∀ off, A = some ⟨g, off, none⟩ → Ro w' g (off + k) (c - k) (l.drop k) := by
  by_cases h0 : k = 0
  · subst h0
    refine ⟨w, ?_, K2.refl _ _ _, rfl, fun _ => .inl rfl, fun _ => rfl, fun off hA => ?_⟩
    · cases A <;> simp [Builtin.clear_, run_underlying ht]
    · rcases hR with ⟨rfl, _⟩ | ⟨hne, off', rfl, hR⟩
      · cases hA
      · injection hA with hA; injection hA with _ e2; subst e2
        exact hR.drop 0 (Nat.zero_le _)
  · rcases hR with ⟨_, _, rfl, _⟩ | ⟨hne, off, rfl, hR⟩
    · simp at hk; omega
    · have hcap := hR.cap
      have hrun := Go.Lib.run_clear_slice (P := P) w t e ty (.int .u8 0) ht hv rfl rfl g off k c (by omega) (fun j hj => (hR.room j (by omega)).1) (fun j hj => (hR.room j (by omega)).2)
      refine ⟨_, hrun, K2.sets _ _ _ _ _, size_sets _ _ _ _, fun _ => ?_, fun h => absurd h hne, fun off' hA => ?_⟩
      · by_cases hp : p < w.heap.size
        · exact .inl (World.heap_setCells_other w g _ _ hp (fun e => hne e.symm))
        · exact .inr (by omega)
      · injection hA with hA; injection hA with _ e2; subst e2
        exact hR.wiped k hk _ (by simp)
theorem wpList_append1 {P : Program} {w w' : World} {ops : Array Oper} {rest : List Oper} {o : Oper} {a : Act} {Q : Exit → Act → World → Prop} (hgd : o.guard = none) (s x : Operand) (t : TypeId) (vs vx v : Value)
    (ho : o.op = .call { callee := .builtin .append, args := #[s, x], argTypes := #[t, t] }) (hs : a.eval s = vs) (hx : a.eval x = vx) (hrun : (Builtin.append_ #[t, t] o.type #[vs, vx]).run P w = .ok v w')
    (h : wpList P ops Q rest (a.put o.dst v) w') : wpList P ops Q (o :: rest) a w :=
  wpList_plain hgd fun K hK => by
    unfold Oper.wp execOp
    simp only [ho, resolve, invoke, builtin, Sem.run_bind, Sem.run_pure, Result.andThen_ok, List.map_toArray, List.map_cons, List.map_nil, hs, hx, hrun]
    exact hK _ _ h
theorem wpList_clear1 {P : Program} {w w' : World} {ops : Array Oper} {rest : List Oper} {o : Oper} {a : Act} {Q : Exit → Act → World → Prop} (hgd : o.guard = none) (s : Operand) (t : TypeId) (vs v : Value)
    (ho : o.op = .call { callee := .builtin .clear, args := #[s], argTypes := #[t] }) (hs : a.eval s = vs) (hrun : (Builtin.clear_ #[t] o.type #[vs]).run P w = .ok v w')
    (h : wpList P ops Q rest (a.put o.dst v) w') : wpList P ops Q (o :: rest) a w :=
  wpList_plain hgd fun K hK => by
    unfold Oper.wp execOp
    simp only [ho, resolve, invoke, builtin, Sem.run_bind, Sem.run_pure, Result.andThen_ok, List.map_toArray, List.map_cons, List.map_nil, hs, hrun]
    exact hK _ _ h
end Gw
