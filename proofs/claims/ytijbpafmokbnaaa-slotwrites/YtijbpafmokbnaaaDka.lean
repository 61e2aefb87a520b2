/- A disk's memory: a block that holds bytes and nothing else, and boxes over such blocks. -/
import Derived.Deep.MidRow
import Derived.Test.YtijbpafmokbnaaaTpm
import Derived.Test.YtijbpafmokbnaaaGty
namespace Gw
open Go Go.RowKit Go.Shelf Pol

/-- Block g holds just the bytes L. -/
def Bk (w : World) (g : Nat) (t : TypeId) (L : List Nat) : Prop := w.heap[g]? = some (.cells (bys L).toArray t (0, 0))
section
variable {w w' : World} {g : Nat} {t : TypeId} {L : List Nat}
theorem Bk.lt (h : Bk w g t L) : g < w.heap.size := (Array.getElem?_eq_some_iff.1 h).1
theorem Bk.keep (h : Bk w g t L) (hg : w'.heap[g]? = w.heap[g]?) : Bk w' g t L := hg.trans h
theorem Bk.cell (h : Bk w g t L) {k x : Nat} (hx : L[k]? = some x) : w.cell? ⟨g, k, none⟩ = some (.int .u8 (x : Int)) := by
  rw [cell_of_row w g k _ t (0, 0) h]
  simpa using bys_at hx
theorem Bk.cell' (h : Bk w g t L) {k : Nat} (hk : k < L.length) : w.cell? ⟨g, k, none⟩ = some (.int .u8 (co L k : Int)) := h.cell (by rw [List.getElem?_eq_getElem hk, co_get hk])
theorem frozen_of {w : World} {g k : Nat} {cs : Array Value} {t : TypeId} (h : w.heap[g]? = some (.cells cs t (0, 0))) : w.frozen? ⟨g, k, none⟩ = false := by
  unfold World.frozen?
  simp only [h]
  simp
theorem Bk.frozen (h : Bk w g t L) (k : Nat) : w.frozen? ⟨g, k, none⟩ = false := frozen_of h
/-- A cell of a known block is turned. -/
theorem heap_set_same {w : World} {p o : Nat} {cs : Array Value} {t : TypeId} {fr : Nat × Nat} {v : Value} (h : w.heap[p]? = some (.cells cs t fr)) : (w.setCell ⟨p, o, none⟩ v).heap[p]? = some (.cells (cs.setIfInBounds o v) t fr) := by
  unfold World.setCell
  simp only [Array.getElem?_modify, if_true, h, Option.map_some]
  simp
theorem Bk.put (h : Bk w g t L) (k y : Nat) : Bk (w.setCell ⟨g, k, none⟩ (.int .u8 (y : Int))) g t (L.set k y) := by
  unfold Bk
  rw [heap_set_same h, ← bys_set]
  simp
theorem Bk.range (h : Bk w g t L) (o m : Nat) : w.rangeAt g o (bys ((L.drop o).take m)) := fun j v hv => by
  obtain ⟨x, hx, rfl⟩ := bys_get hv
  rw [List.getElem?_take] at hx
  split at hx
  · rw [List.getElem?_drop] at hx; exact h.cell hx
  · cases hx
/-- Some of its bytes, as a slice. -/
theorem Bk.sl (h : Bk w g t L) (hb : BB L) (o m : Nat) : Sl w w.heap.size (some ⟨g, o, none⟩) ((L.drop o).take m) := fun i x hx => by
  have hx2 := h.range o m i _ (bys_at hx)
  rw [List.getElem?_take] at hx
  split at hx
  · rw [List.getElem?_drop] at hx
    exact ⟨hb x (List.mem_of_getElem? hx), g, o, rfl, h.lt, hx2⟩
  · cases hx
theorem Bk.in_ (h : Bk w g t L) (hb : BB L) (o m c : Nat) (hc : m ≤ c) : In w w.heap.size (some ⟨g, o, none⟩) c ((L.drop o).take m) := ⟨h.sl hb o m, by rw [List.length_take]; omega, fun e => by cases e⟩
/-- 'make': noughts. -/
theorem Bk.new (w : World) (t : TypeId) (L : List Nat) {cs : Array Value} (h : cs = (bys L).toArray) : Bk (w.alloc (.cells cs t)) w.heap.size t L := by subst h; exact heap_alloc_new w _
theorem made_k (k m : Nat) (hk : 0 < k) : madeCells (bys (List.replicate k 0)).toArray m = (bys (List.replicate m 0)).toArray := by
  apply Array.toList_inj.1
  refine List.ext_getElem (by simp [madeCells, bys]) fun i h1 h2 => ?_
  have := Nat.mod_lt i hk
  simp [madeCells, bys, this]
end
/-- L, whose bytes from o on are b. -/
def laid (L : List Nat) (o : Nat) (b : List Nat) : List Nat := L.take o ++ (b ++ L.drop (o + b.length))
theorem laid_len {L b : List Nat} {o : Nat} (h : o + b.length ≤ L.length) : (laid L o b).length = L.length := by
  unfold laid; simp only [List.length_append, List.length_take, List.length_drop]; omega
theorem laid_bb {L b : List Nat} {o : Nat} (h : BB L) (hb : BB b) : BB (laid L o b) := BB.append (h.take o) (BB.append hb (h.drop _))
theorem laid_same {L b : List Nat} {o : Nat} (h : o + b.length ≤ L.length) : ((laid L o b).drop o).take b.length = b := by
  unfold laid
  have h1 : (L.take o).length = o := by rw [List.length_take]; omega
  rw [List.drop_append_of_le_length (by omega), List.drop_of_length_le (by omega), List.nil_append, List.take_left' rfl]
/-- 'copy' of as many bytes as there is room for. -/
theorem run_copyK {P : Program} {w : World} (ta ty e : TypeId) (hu : P.underlying ta = some (.slice e)) (hs : (P.info? e).map (·.size) = some 1) (g o dl dc m c : Nat) {A : Option Addr} {B : Nat} {t : TypeId} {L b : List Nat} (hp : Sl w B A b) (hg : Bk w g t L) (hm : m = b.length) (hle : m ≤ dl) (hfit : o + m ≤ L.length) :
    ∃ w2, (Builtin.copy_ #[ta, ta] ty #[.slice (some ⟨g, o, none⟩) dl dc, .slice A m c]).run P w = .ok (.int .i64 (m : Int)) w2 ∧ Bk w2 g t (laid L o b) ∧ w.grownBy w2 (some g) := by
  subst hm
  by_cases h0 : b.length = 0
  · have hr := run_copy_none (P := P) w ta ta ty e (some ⟨g, o, none⟩) A dl dc b.length c hu hs (by rw [h0]; exact Nat.zero_min _)
    refine ⟨_, hr.trans (by rw [h0]; rfl), ?_, World.grownBy.refl _ _⟩
    have hb0 : b = [] := List.eq_nil_of_length_eq_zero h0
    subst hb0
    have : laid L o [] = L := by unfold laid; simp
    rw [this]; exact hg
  · obtain ⟨x, b', off, hx, _, rfl, hb, _⟩ := hp.at_ (k := 0) (by omega)
    have hr := run_copy_row (P := P) w ta ta ty e g o dl dc ⟨b', off, none⟩ b.length c _ t (bys b) hu hs hg (by rw [bys_len]; exact (Nat.min_eq_left hle).symm) (fun j v hj => by
      obtain ⟨y, hy, rfl⟩ := bys_get hj
      obtain ⟨_, b', off', e', hb', hc'⟩ := hp j y hy
      injection e' with e'
      injection e' with e1 e2
      subst e1 e2
      rw [addr_add]
      exact hc') (by simp [bys_len]; exact hfit) (bys_one b)
    have hgr : ∀ cs, w.grownBy (w.setRow g cs) (some g) := fun cs => ⟨rfl, rfl, rfl, by simp, fun k _ hk => setRow_other w g k _ (fun e => hk (by rw [e]))⟩
    refine ⟨_, hr.trans (by rw [bys_len]; rfl), ?_, hgr _⟩
    unfold Bk
    rw [setRow_heap _ _ _ _ _ _ hg]
    have e1 : (bys L).take o ++ bys b ++ (bys L).drop (o + b.length) = bys (laid L o b) := by
      unfold laid
      rw [bys_app, bys_app, List.append_assoc]
      unfold bys
      rw [List.map_take, List.map_drop]
    rw [← e1]

/-- A box over a block of bytes: what both disks are. td: the box's type, tb: the block's. -/
structure Bxs (w : World) (p g : Nat) (td tb : TypeId) (cs : Array Value) (L : List Nat) (n : Nat) : Prop where
  box : w.heap[p]? = some (.cells cs td (0, 0))
  row : Bk w g tb L
  len : L.length = 32 * n
  few : n ≤ 2048
  bb : BB L
  ne : p ≠ g
section
variable {w w' : World} {p g : Nat} {td tb : TypeId} {cs : Array Value} {L : List Nat} {n : Nat}
theorem Bxs.plt (h : Bxs w p g td tb cs L n) : p < w.heap.size := (Array.getElem?_eq_some_iff.1 h.box).1
theorem Bxs.glt (h : Bxs w p g td tb cs L n) : g < w.heap.size := h.row.lt
theorem Bxs.cell (h : Bxs w p g td tb cs L n) (k : Nat) : w.cell? ⟨p, k, none⟩ = cs[k]? := cell_of_row w p k _ td (0, 0) h.box
theorem Bxs.fr (h : Bxs w p g td tb cs L n) (k : Nat) : w.frozen? ⟨p, k, none⟩ = false := frozen_of h.box
theorem Bxs.keep (h : Bxs w p g td tb cs L n) (hp : w'.heap[p]? = w.heap[p]?) (hg : w'.heap[g]? = w.heap[g]?) : Bxs w' p g td tb cs L n := ⟨hp.trans h.box, hg.trans h.row, h.len, h.few, h.bb, h.ne⟩
theorem Bxs.below (h : Bxs w p g td tb cs L n) {B : Nat} (hb : Below B w w') (hB : w.heap.size ≤ B) : Bxs w' p g td tb cs L n :=
  h.keep (hb.block p (by have := h.plt; omega)) (hb.block g (by have := h.glt; omega))
theorem Bxs.k2 (h : Bxs w p g td tb cs L n) {q r : Nat} (hk : K2 w w' q r) (h1 : p ≠ q) (h2 : p ≠ r) (h3 : g ≠ q) (h4 : g ≠ r) : Bxs w' p g td tb cs L n :=
  h.keep (hk.block p h.plt h1 h2) (hk.block g h.glt h3 h4)
theorem Bxs.set (h : Bxs w p g td tb cs L n) (k : Nat) (v : Value) : Bxs (w.setCell ⟨p, k, none⟩ v) p g td tb (cs.setIfInBounds k v) L n :=
  ⟨heap_set_same h.box, (heap_set_other w p k g v (Ne.symm h.ne)).trans h.row, h.len, h.few, h.bb, h.ne⟩
theorem Bxs.lay (h : Bxs w p g td tb cs L n) {L' : List Nat} (hg : w.grownBy w' (some g)) (hr : Bk w' g tb L') (hl : L'.length = L.length) (hb : BB L') : Bxs w' p g td tb cs L' n :=
  ⟨(hg.block p h.plt (fun e => h.ne (by injection e))).trans h.box, hr, by rw [hl]; exact h.len, h.few, hb, h.ne⟩
theorem Bxs.turn (h : Bxs w p g td tb cs L n) (k y : Nat) (hy : y < 256) : Bxs (w.setCell ⟨g, k, none⟩ (.int .u8 (y : Int))) p g td tb cs (L.set k y) n :=
  ⟨(heap_set_other w g k p _ h.ne).trans h.box, h.row.put k y, by rw [List.length_set]; exact h.len, h.few, fun x hx => by
    rcases List.mem_or_eq_of_mem_set hx with h1 | h1
    · exact h.bb x h1
    · omega, h.ne⟩
end
theorem K2.grown {w w' : World} {p g r : Nat} (h : w.grownBy w' (some r)) (hr : r = p ∨ r = g) : K2 w w' p g :=
  ⟨h.os, h.tape, h.output, h.size, fun k hk h1 h2 => h.block k hk (fun e => by injection e with e; omega)⟩
theorem K2.setg (w : World) (p g o : Nat) (v : Value) : K2 w (w.setCell ⟨g, o, none⟩ v) p g :=
  ⟨rfl, rfl, rfl, by simp, fun k _ _ h2 => heap_set_other w g o k v h2⟩
theorem K2.sm {w w' w2 : World} {p g : Nat} (h : K2 w w' p g) (h' : K2 w' w2 p g) : K2 w w2 p g := h.trans h' (.inl rfl)
end Gw
namespace Go.Proofs.Ytijbpafmokbnaaa
open Go.RowKit Go.Shelf Gw Pol
/-- The program's disk. -/
def Dk (w : World) (p g n : Nat) (L : List Nat) (dn fu : Bool) (lf wr : Nat) : Prop := Bxs w p g 67 57 #[.slice (some ⟨g, 0, none⟩) n n, .bool dn, .bool fu, .int .i64 (lf : Int), .int .i64 (wr : Int)] L n
/-- How many blocks a new disk has. -/
def nb (a : Int) : Nat := min a.toNat 2048
end Go.Proofs.Ytijbpafmokbnaaa
