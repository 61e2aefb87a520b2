/- Roots and blocks in numbers: what a slot's code writes and reads. -/
import Derived.Test.YtijbpafmokbnaaaSkg
namespace Go.Proofs.Ytijbpafmokbnaaa
open Go.RowKit Go.Shelf Gw Pol
/-- The four bytes of a number, together again. -/
theorem root_back (m : Nat) (h : m < 4294967296) : m / 16777216 % 256 * 16777216 + m / 65536 % 256 * 65536 + m / 256 % 256 * 256 + m % 256 = m := by omega
theorem root_at (side m : Nat) : co (rootB side m) 0 = side ∧ co (rootB side m) 1 = m / 16777216 % 256 ∧ co (rootB side m) 2 = m / 65536 % 256 ∧ co (rootB side m) 3 = m / 256 % 256 ∧ co (rootB side m) 4 = m % 256 := ⟨rfl, rfl, rfl, rfl, rfl⟩
theorem root_rest (side m t : Nat) (ht : 5 ≤ t) : co (rootB side m) t = 0 := by
  rw [co_def]
  unfold rootB
  rw [List.getElem?_append_right (by simpa using ht), List.getElem?_replicate]
  split <;> rfl
/-- A block of noughts, and part i of K laid over its beginning. -/
theorem blk_laid (K : List Nat) (i : Nat) : laid z32 0 ((K.drop (i * 32)).take 32) = blk K i := by
  have hl : ((K.drop (i * 32)).take 32).length ≤ 32 := by rw [List.length_take]; omega
  refine ext32 (by rw [laid_len (by show 0 + _ ≤ 32; omega)]; rfl) (blk_len _ _) fun t ht => ?_
  rw [co_laid t (by show 0 + _ ≤ 32; omega), co_blk K i t ht, Nat.zero_add, Nat.sub_zero]
  by_cases c : t < ((K.drop (i * 32)).take 32).length
  · rw [if_pos ⟨Nat.zero_le _, c⟩, co_def, co_def, List.getElem?_take, if_pos ht, List.getElem?_drop]
  · rw [if_neg (by omega), co_z32]
    rw [List.length_take, List.length_drop] at c
    rw [co_ge (by omega)]
/-- Whole parts of K are their blocks. -/
theorem blk_whole (K : List Nat) (i : Nat) (h : i * 32 + 32 ≤ K.length) : (K.drop (i * 32)).take 32 = blk K i := by
  refine ext32 (by rw [List.length_take, List.length_drop]; omega) (blk_len _ _) fun t ht => ?_
  rw [co_blk K i t ht, co_def, co_def, List.getElem?_take, if_pos ht, List.getElem?_drop]
/-- The first so many bytes of a block are those of K. -/
theorem blk_take (K : List Nat) (i n : Nat) (hn : n ≤ 32) (h : i * 32 + n ≤ K.length) : (blk K i).take n = (K.drop (i * 32)).take n := by
  apply List.ext_getElem?
  intro t
  rw [List.getElem?_take, List.getElem?_take]
  by_cases c : t < n
  · rw [if_pos c, if_pos c, List.getElem?_drop]
    unfold blk
    rw [List.getElem?_map, List.getElem?_range (by omega)]
    show some (co K (i * 32 + t)) = _
    rw [co_get (show i * 32 + t < K.length by omega), List.getElem?_eq_getElem]
  · rw [if_neg c, if_neg c]
/-- K's first i blocks, and the next. -/
theorem take_next (K : List Nat) (i n : Nat) : K.take (i * 32) ++ (K.drop (i * 32)).take n = K.take (i * 32 + n) := by
  rw [List.take_add]
theorem co_bb {L : List Nat} (h : BB L) (k : Nat) : co L k < 256 := h.co k
theorem blk_bb {K : List Nat} (h : BB K) (i : Nat) : BB (blk K i) := fun x hx => by
  obtain ⟨t, _, rfl⟩ := List.mem_map.1 hx
  exact h.co _
theorem rootB_bb {side m : Nat} (h : side ≤ 1) : BB (rootB side m) := fun x hx => by
  unfold rootB at hx
  rw [List.mem_append] at hx
  rcases hx with hx | hx
  · simp at hx
    omega
  · rw [List.eq_of_mem_replicate hx]; omega
/-- Is a block all noughts? -/
theorem z32_iff {b : List Nat} (hb : b.length = 32) : b = z32 ↔ ∀ t, t < 32 → co b t = 0 :=
  ⟨fun h t _ => by rw [h]; exact co_z32 t, fun h => ext32 hb rfl fun t ht => by rw [h t ht, co_z32]⟩
/-- A side is wiped just if its blocks are noughts. -/
theorem cl_iff {r : Nat} {L : List Nat} {side : Nat} (hL : L.length = 32 * (1 + 2 * r)) (h2 : side ≤ 1) : Cl r L side ↔ ∀ i, i < r → piece L (1 + (1 - side) * r + i) = z32 := by
  have hs : (1 - side) * r ≤ r := by rcases (by omega : side = 0 ∨ side = 1) with e | e <;> rw [e] <;> omega
  generalize hz : (1 - side) * r = z at hs
  unfold Cl
  rw [hz]
  constructor
  · intro h i hi
    refine piece_eq hL (by omega) rfl fun t ht => ?_
    rw [co_z32, ← h (i * 32 + t) (by omega)]
    congr 1
    omega
  · intro h a ha
    have h1 := h (a / 32) (by omega)
    have h3 : co (piece L (1 + z + a / 32)) (a % 32) = 0 := by rw [h1]; exact co_z32 _
    rw [co_piece (by omega)] at h3
    rw [← h3]
    congr 1
    omega
/-- A block of the side that does not hold is wiped. -/
theorem Sd.wipe {r : Nat} {L : List Nat} {side : Nat} {K : List Nat} (h : Sd r L side K) (i : Nat) (hi : i < r) : Sd r (laid L ((1 + (1 - side) * r + i) * 32) z32) side K := by
  have h2 := h.two
  have hL := h.len
  have hs : (1 - side) * r ≤ r := by rcases (by omega : side = 0 ∨ side = 1) with e | e <;> rw [e] <;> omega
  have hz : z32.length = 32 := rfl
  refine ⟨by rw [laid_len (by omega), hL], h.few, h2, fun t ht => ?_, h.fit, fun a ha => ?_⟩
  · rw [co_laid t (by omega), if_neg (by omega)]; exact h.root t ht
  · rw [co_laid _ (by omega), if_neg, h.data a ha]
    rw [hz]
    rcases (by omega : side = 0 ∨ side = 1) with e | e <;> rw [e] <;> simp only [Nat.sub_zero, Nat.sub_self, Nat.one_mul, Nat.zero_mul, Nat.add_zero] <;> omega
end Go.Proofs.Ytijbpafmokbnaaa
