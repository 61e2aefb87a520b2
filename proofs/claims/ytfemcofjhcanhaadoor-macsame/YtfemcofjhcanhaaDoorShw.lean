/- Arrays of words in blocks of their own: read, turned, loaded and stored whole. -/
import Derived.Test.YtfemcofjhcanhaaDoorShm
import Derived.Test.YtfemcofjhcanhaaDoorByt
import Derived.Laws.Rows
namespace Gw
open Go Go.RowKit Go.Shelf Pol

/-- Words as values. -/
def u32v (L : List Nat) : Array Value := (L.map (fun (x : Nat) => Value.int .u32 (x : Int))).toArray
theorem u32v_size (L : List Nat) : (u32v L).size = L.length := by simp [u32v]
theorem u32v_one (L : List Nat) : (u32v L).all (·.oneCell') = true := by
  rw [Array.all_eq_true_iff_forall_mem]
  intro u hu
  simp only [u32v, List.mem_toArray, List.mem_map] at hu
  obtain ⟨x, _, rfl⟩ := hu; rfl
theorem u32v_get {L : List Nat} {k : Nat} (hk : k < L.length) : (u32v L)[k]? = some (.int .u32 (co L k : Int)) := by
  simp [u32v, hk, co_get hk]
theorem u32v_set (L : List Nat) (k y : Nat) : (u32v L).setIfInBounds k (.int .u32 (y : Int)) = u32v (L.set k y) := by
  simp [u32v, List.map_set]
/-- Block g is an array of words. -/
def Wa (w : World) (g : Nat) (t : TypeId) (L : List Nat) : Prop := w.heap[g]? = some (.cells (u32v L) t (0, 0))
section
variable {w w' : World} {g : Nat} {t : TypeId} {L : List Nat}
theorem Wa.lt (h : Wa w g t L) : g < w.heap.size := (Array.getElem?_eq_some_iff.1 h).1
theorem Wa.cell (h : Wa w g t L) {k : Nat} (hk : k < L.length) : w.cell? ⟨g, k, none⟩ = some (.int .u32 (co L k : Int)) := by
  rw [cell_of_row w g k _ t _ h]; exact u32v_get hk
theorem Wa.frozen (h : Wa w g t L) (k : Nat) : w.frozen? ⟨g, k, none⟩ = false := by
  unfold Wa at h
  simp [World.frozen?, h]
theorem Wa.put (h : Wa w g t L) (k y : Nat) : Wa (w.setCell ⟨g, k, none⟩ (.int .u32 (y : Int))) g t (L.set k y) := by
  unfold Wa
  rw [setCell_eq_setRow w g k _ t (0, 0) _ h, setRow_heap w g _ _ t _ h, u32v_set]
theorem Wa.by_ {r : Option Nat} (h : Wa w g t L) (hg : w.grownBy w' r) (hr : r ≠ some g) : Wa w' g t L :=
  (hg.block g h.lt (fun e => hr e.symm)).trans h
theorem Wa.set_other (h : Wa w g t L) {p : Addr} (hp : p.block ≠ g) (v : Value) : Wa (w.setCell p v) g t L :=
  (RowKit.Below.heap_setCell w p v g hp.symm).trans h
theorem Wa.below {B : Nat} (h : Wa w g t L) (hb : Below B w w') (hB : g < B) : Wa w' g t L := (hb.block g hB).trans h
theorem Wa.alloc (h : Wa w g t L) (o : Obj) : Wa (w.alloc o) g t L := by
  show (w.heap.push o)[g]? = _; rw [Array.getElem?_push, if_neg (Nat.ne_of_lt h.lt)]; exact h
theorem Wa.drewN (h : Wa w g t L) (n : Nat) : Wa (w.drewN n) g t L := h
theorem Wa.new (w : World) (t : TypeId) (L : List Nat) : Wa (w.alloc (.cells (u32v L) t)) w.heap.size t L := heap_alloc_new w _
theorem Wa.load {P : Program} {n : Nat} {e : TypeId} (h : Wa w g t L) (hu : P.underlying t = some (.array n e)) (hi : (P.info? t).map (·.size) = some n) (hn : n = L.length) :
    (Instr.loadAt t (.pointer (some ⟨g, 0, none⟩))).run P w = .ok (.agg (u32v L)) w := by
  simp only [Instr.loadAt, Instr.sureAddr, Sem.run_bind, Sem.run_pure, Result.andThen]
  exact run_loadVar_row w g t t _ _ _ h hu rfl (by rw [u32v_size, ← hn]; exact hi)
theorem Wa.store {P : Program} {n : Nat} {M : List Nat} (h : Wa w g t L) (hi : (P.info? t).map (·.size) = some n) (hn : n = L.length) (hm : n = M.length) :
    (Instr.storeAt t (.pointer (some ⟨g, 0, none⟩)) (.agg (u32v M))).run P w = .ok () (w.setRow g (u32v M)) ∧ Wa (w.setRow g (u32v M)) g t M := by
  refine ⟨?_, setRow_heap w g _ _ t _ h⟩
  simp only [Instr.storeAt, Instr.sureAddr, Sem.run_bind, Sem.run_pure, Result.andThen]
  exact run_storeVar_row w g t t _ _ h (by rw [u32v_size, ← hm]; exact hi) (by rw [u32v_size, u32v_size]; omega) (u32v_one M)
end
/-- The first words L, and noughts. -/
def wl (L : List Nat) : List Nat := L ++ List.replicate (64 - L.length) 0
theorem wl_len {L : List Nat} (h : L.length ≤ 64) : (wl L).length = 64 := by simp [wl]; omega
theorem wl_co {L : List Nat} {i : Nat} (h : i < L.length) : co (wl L) i = co L i := co_append_left h
theorem wl_at {L : List Nat} {t x : Nat} (ht : t = L.length) : co (wl (L ++ [x])) t = x := by
  subst ht
  rw [wl, List.append_assoc, co_append_right (Nat.le_refl _), Nat.sub_self]; rfl
theorem wl_zero {L : List Nat} (h : L.length < 64) : wl (L ++ [0]) = wl L := by
  unfold wl
  rw [List.length_append, List.length_singleton, List.append_assoc]
  congr 1
  rw [show 64 - L.length = (64 - (L.length + 1)) + 1 by omega, List.replicate_succ]; rfl
theorem wl_put {L : List Nat} {t x y : Nat} (ht : t = L.length) : (wl (L ++ [x])).set t y = wl (L ++ [y]) := by
  subst ht
  unfold wl
  rw [List.append_assoc, List.append_assoc, List.set_append_right _ _ (Nat.le_refl _), Nat.sub_self, List.length_append, List.length_append]; rfl
theorem wl_full {L : List Nat} (h : L.length = 64) : wl L = L := by simp [wl, h]
end Gw
