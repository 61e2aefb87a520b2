/- More on slices of bytes: those that lie outside a block, rows that a call has made and turns byte by byte, what 'make' and 'copy' lay. -/
import Derived.Test.YtijbpafmokbnaaaBys
import Derived.Test.YtijbpafmokbnaaaPoq
import Derived.Lib.BufferOwn
import Derived.Laws.CopyOwn
import Derived.Lib.HexFns2
namespace Gw
open Go Go.RowKit Go.Shelf Pol

/-- The slice at A reads as l, and lies not in block g. -/
def SlN (w : World) (g : Nat) (A : Option Addr) (l : List Nat) : Prop :=
  ∀ (i x : Nat), l[i]? = some x → x < 256 ∧ ∃ b off, A = some ⟨b, off, none⟩ ∧ b ≠ g ∧ b < w.heap.size ∧ w.cell? ⟨b, off + i, none⟩ = some (.int .u8 (x : Int))
theorem cell_lt {w : World} {b off : Nat} {v : Value} (h : w.cell? ⟨b, off, none⟩ = some v) : b < w.heap.size := World.block_lt_of_cell? w ⟨b, off, none⟩ h
theorem Sl.away {w : World} {B g : Nat} {A : Option Addr} {l : List Nat} (h : Sl w B A l) (hg : B ≤ g) : SlN w g A l := fun i x hx => by
  obtain ⟨h1, b, off, h2, h3, h4⟩ := h i x hx
  exact ⟨h1, b, off, h2, by omega, cell_lt h4, h4⟩
theorem Own.away {w : World} {base g : Nat} {e : TypeId} {A : Option Addr} {c : Nat} {l : List Nat} (h : Own w base e A c l) (hg : g < base) : SlN w g A l := fun i x hx => by
  obtain ⟨h1, b, off, h2, h3, h4⟩ := h.sl i x hx
  subst h2
  have := (h.1.lt b rfl).1
  exact ⟨h1, b, off, rfl, by omega, h3, h4⟩
theorem SlN.grown {w w' : World} {g : Nat} {A : Option Addr} {l : List Nat} (h : SlN w g A l) (hg : w.grownBy w' (some g)) : SlN w' g A l := fun i x hx => by
  obtain ⟨h1, b, off, h2, h3, h4, h5⟩ := h i x hx
  exact ⟨h1, b, off, h2, h3, Nat.lt_of_lt_of_le h4 hg.size, hg.cell h5 (fun e => h3 (by injection e))⟩
theorem SlN.drewN {w : World} {g : Nat} {A : Option Addr} {l : List Nat} (h : SlN w g A l) (n : Nat) : SlN (w.drewN n) g A l := h
theorem SlN.at_ {w : World} {g : Nat} {A : Option Addr} {l : List Nat} (h : SlN w g A l) {k : Nat} (hk : k < l.length) :
    ∃ x b off, l[k]? = some x ∧ x < 256 ∧ A = some ⟨b, off, none⟩ ∧ b ≠ g ∧ w.cell? ⟨b, off + k, none⟩ = some (.int .u8 (x : Int)) := by
  have e := List.getElem?_eq_getElem hk
  obtain ⟨h1, b, off, h2, h3, _, h4⟩ := h k _ e
  exact ⟨_, b, off, e, h1, h2, h3, h4⟩
theorem SlN.take {w : World} {g : Nat} {A : Option Addr} {l : List Nat} (h : SlN w g A l) (n : Nat) : SlN w g A (l.take n) := fun i x hx => by
  rw [List.getElem?_take] at hx
  split at hx
  · exact h i x hx
  · cases hx
theorem SlN.tr {w : World} {g : Nat} {A : Option Addr} {l : List Nat} (h : SlN w g A l) : SlN w g A (Pol.tr l) := by rw [tr_is_take]; exact h.take _
theorem Sl.tr {w : World} {B : Nat} {A : Option Addr} {l : List Nat} (h : Sl w B A l) : Sl w B A (Pol.tr l) := by rw [tr_is_take]; exact h.take _
theorem In.tr {w : World} {B : Nat} {A : Option Addr} {c : Nat} {l : List Nat} (h : In w B A c l) : In w B A c (Pol.tr l) := ⟨h.sl.tr, Nat.le_trans (tr_len l) h.cap, h.none_⟩

/-- The first bytes of one's own row. -/
theorem Own.take {w : World} {base : Nat} {e : TypeId} {A : Option Addr} {c : Nat} {l : List Nat} (h : Own w base e A c l) (n : Nat) : Own w base e A c (l.take n) := by
  refine ⟨⟨by rw [bys_len, Nat.mul_one], ?_⟩, h.2.take n⟩
  rcases h.1.2 with ⟨hv, h0⟩ | ⟨g, cap, cur, hv, hb, hg, hnc, hm, hs, ht⟩
  · left
    injection hv with h1 h2 h3
    have : l = [] := List.eq_nil_of_length_eq_zero h2
    subst this h1 h3
    exact ⟨by simp, by simp⟩
  · right
    injection hv with h1 h2 h3
    subst h1 h3
    have hle : (l.take n).length ≤ l.length := by rw [List.length_take]; omega
    refine ⟨g, c, cur, rfl, hb, hg, by omega, hm, hs, ?_⟩
    have e1 : (bys l).take (l.take n).length = bys (l.take n) := by
      unfold bys
      rw [← List.map_take]
      congr 1
      rw [List.length_take]
      by_cases hn : n ≤ l.length
      · rw [Nat.min_eq_left hn]
      · rw [Nat.min_eq_right (by omega), List.take_of_length_le (Nat.le_refl _), List.take_of_length_le (by omega)]
    rw [← e1, ← ht, List.take_take]
    congr 1
    omega
theorem Own.tr {w : World} {base : Nat} {e : TypeId} {A : Option Addr} {c : Nat} {l : List Nat} (h : Own w base e A c l) : Own w base e A c (Pol.tr l) := by rw [tr_is_take]; exact h.take _
theorem Own.lt {w : World} {base g off c : Nat} {e : TypeId} {l : List Nat} (h : Own w base e (some ⟨g, off, none⟩) c l) : base ≤ g ∧ g < w.heap.size := h.1.lt g rfl
/-- It stays over what turns another block alone. -/
theorem Own.grown {w w' : World} {base g : Nat} {e : TypeId} {A : Option Addr} {c : Nat} {l : List Nat} (h : Own w base e A c l) (hg : w.grownBy w' (some g)) (hne : ∀ o, A ≠ some ⟨g, o, none⟩) : Own w' base e A c l := by
  refine ⟨h.1.kept hg ?_, h.2⟩
  rcases h.1.2 with ⟨hv, _⟩ | ⟨g2, cap, cur, hv, _⟩
  · injection hv with h1; subst h1; exact .inl rfl
  · injection hv with h1; subst h1; exact .inr (fun e => by simp [Value.ownBlock] at e; exact hne 0 (by rw [e]))
/-- 'make([]byte, n)'. -/
theorem Own.made (w : World) (e : TypeId) (n : Nat) (h : n ≤ 140737488355328) : Own (w.alloc (.cells (madeCells #[.int .u8 0] n) e)) w.heap.size e (some ⟨w.heap.size, 0, none⟩) n (List.replicate n 0) := by
  have hm : (madeCells #[Value.int .u8 0] n).toList = bys (List.replicate n 0) := by
    refine List.ext_getElem (by simp [madeCells, bys]) fun i h1 h2 => ?_
    simp [madeCells, bys, Nat.mod_one]
  have h1 := World.ownsRow_lit (base := w.heap.size) (e := e) (size := 1) w (madeCells #[.int .u8 0] n) n (Nat.le_refl _) (by simp only [maxLen]; omega) (by simp [madeCells])
  rw [hm] at h1
  refine ⟨by rw [List.length_replicate]; exact h1, fun x hx => by rw [List.eq_of_mem_replicate hx]; omega⟩
/-- A byte of it is turned. -/
theorem Own.put {w : World} {base : Nat} {e : TypeId} {g c : Nat} {l : List Nat} (h : Own w base e (some ⟨g, 0, none⟩) c l) {k : Nat} (hk : k < l.length) {y : Nat} (hy : y < 256) :
    Own (w.setCell ⟨g, k, none⟩ (.int .u8 (y : Int))) base e (some ⟨g, 0, none⟩) c (l.set k y) := by
  obtain ⟨g2, e2, _, h2⟩ := h.store hk
  injection e2 with e2
  injection e2 with e3
  subst e3
  exact h2 y hy
theorem Own.cell {w : World} {base : Nat} {e : TypeId} {g c : Nat} {l : List Nat} (h : Own w base e (some ⟨g, 0, none⟩) c l) {k : Nat} (hk : k < l.length) : w.cell? ⟨g, k, none⟩ = some (.int .u8 (co l k : Int)) := by
  obtain ⟨_, b, off, h2, _, h4⟩ := h.sl k _ (List.getElem?_eq_getElem hk)
  injection h2 with h2
  injection h2 with h3 h5
  subst h3 h5
  rw [Nat.zero_add] at h4
  rw [h4, co_get hk]
theorem grown_put {w w' : World} {g k : Nat} (h : w.grownBy w' (some g)) (v : Value) : w.grownBy (w'.setCell ⟨g, k, none⟩ v) (some g) := Lib.grownBy_setB h k v
theorem grown_drewN {w w' : World} {row : Option Nat} (h : w.grownBy w' row) (n : Nat) : w.grownBy (w'.drewN n) row := ⟨h.os, h.tape, h.output, h.size, h.block⟩
theorem grown_drew {w w' : World} {row : Option Nat} (h : w.grownBy w' row) : w.grownBy w'.drew row := ⟨h.os, h.tape, h.output, h.size, h.block⟩
theorem Below.by {w w' : World} {B g : Nat} (h : w.grownBy w' (some g)) (hB : B ≤ w.heap.size) (hg : B ≤ g) : Below B w w' := (Below.refl B w).grown h hB (fun k e => by injection e with e; omega)
theorem Below.grown {w w' : World} {g : Nat} (h : Below w.heap.size w w') : w.grownBy w' (some g) := ⟨h.os, h.tape, h.output, h.size, fun k hk _ => h.block k hk⟩
/-- 'copy' lays l over the first bytes of n noughts. -/
theorem copied {w : World} {base g n c : Nat} {e : TypeId} {l : List Nat} (hbase : base ≤ g) (hg : w.heap[g]? = some (.cells (splice (bys (List.replicate n 0)) 0 (bys l)).toArray e (0, 0))) (hl : l.length ≤ n) (hbb : BB l) (hc : c = n) (hm : n ≤ 140737488355328) :
    Own w base e (some ⟨g, 0, none⟩) c (l ++ List.replicate (n - l.length) 0) := by
  subst hc
  have e1 : splice (bys (List.replicate c 0)) 0 (bys l) = bys (l ++ List.replicate (c - l.length) 0) := by
    unfold splice
    rw [List.take_zero, List.nil_append, bys_len, Nat.zero_add, bys_app]
    congr 1
    unfold bys
    rw [← List.map_drop, List.drop_replicate]
  rw [e1] at hg
  have hlen : (l ++ List.replicate (c - l.length) 0).length = c := by simp; omega
  refine ⟨⟨by rw [bys_len, Nat.mul_one], .inr ⟨g, c, _, rfl, hbase, hg, by omega, by simp only [maxLen]; omega, by simp [bys_len]; omega, ?_⟩⟩, hbb.append (fun x hx => by rw [List.eq_of_mem_replicate hx]; omega)⟩
  rw [Nat.mul_one, hlen]
  exact List.take_of_length_le (by simp [bys_len]; omega)
theorem made_bys (n : Nat) : madeCells #[Value.int .u8 0] n = (bys (List.replicate n 0)).toArray := by
  apply Array.toList_inj.1
  refine List.ext_getElem (by simp [madeCells, bys]) fun i h1 h2 => ?_
  simp [madeCells, bys, Nat.mod_one]
theorem addr_add (b off j : Nat) : (⟨b, off, none⟩ : Addr).add j = ⟨b, off + j, none⟩ := by
  unfold Addr.add; split
  · rename_i h0; subst h0; rfl
  · rfl
/-- 'copy' onto what 'make' has laid. -/
theorem run_copied {P : Program} {w : World} (t ty e : TypeId) (hu : P.underlying t = some (.slice e)) (hs : (P.info? e).map (·.size) = some 1) (n m c : Nat) {A : Option Addr} {B : Nat} {p : List Nat} (hp : Sl w B A p) (hB : B ≤ w.heap.size) (hm : m = p.length) (hn : m ≤ n) (hnb : n ≤ 140737488355328) :
    ∃ w2, (Builtin.copy_ #[t, t] ty #[.slice (some ⟨w.heap.size, 0, none⟩) n n, .slice A m c]).run P (w.alloc (.cells (madeCells #[.int .u8 0] n) e)) = .ok (.int .i64 (m : Int)) w2 ∧
      Own w2 w.heap.size e (some ⟨w.heap.size, 0, none⟩) n (p ++ List.replicate (n - p.length) 0) ∧ Below w.heap.size w w2 := by
  subst hm
  have hB1 : Below w.heap.size w (w.alloc (.cells (madeCells #[.int .u8 0] n) e)) := (Below.refl _ _).alloc (Nat.le_refl _) _
  have hnew : (w.alloc (.cells (madeCells #[.int .u8 0] n) e)).heap[w.heap.size]? = some (.cells (bys (List.replicate n 0)).toArray e (0, 0)) := by
    rw [World.alloc_heap_new, made_bys]
  by_cases h0 : p.length = 0
  · have hr := run_copy_none (P := P) (w.alloc (.cells (madeCells #[.int .u8 0] n) e)) t t ty e (some ⟨w.heap.size, 0, none⟩) A n n p.length c hu hs (by rw [h0]; exact Nat.zero_min _)
    refine ⟨_, hr.trans (by rw [h0]; rfl), ?_, hB1⟩
    have hp0 : p = [] := List.eq_nil_of_length_eq_zero h0
    subst hp0
    exact Own.made w e n hnb
  · obtain ⟨x, b, off, hx, _, rfl, _, _⟩ := hp.at_ (k := 0) (by omega)
    have hr := run_copy_row (P := P) (w.alloc (.cells (madeCells #[.int .u8 0] n) e)) t t ty e w.heap.size 0 n n ⟨b, off, none⟩ p.length c _ e (bys p) hu hs hnew (by rw [bys_len]; exact (Nat.min_eq_left hn).symm) (fun j v hj => by
      obtain ⟨y, hy, rfl⟩ := bys_get hj
      obtain ⟨_, b', off', e', hb', hc'⟩ := hp j y hy
      injection e' with e'
      injection e' with e1 e2
      subst e1 e2
      rw [addr_add]
      exact (World.cell?_alloc_lt w _ _ (by show b < _; omega)).trans hc') (by simp [bys_len]; exact hn) (bys_one p)
    refine ⟨_, hr.trans (by rw [bys_len]; rfl), ?_, below_setRow hB1 (Nat.le_refl _) _⟩
    refine copied (Nat.le_refl _) ?_ hn hp.bb rfl hnb
    rw [setRow_heap _ _ _ _ _ _ hnew]
    simp [splice, bys_len]
theorem co_of' {l : List Nat} {k x : Nat} (h : l[k]? = some x) : co l k = x := by simp [co, h]
end Gw
