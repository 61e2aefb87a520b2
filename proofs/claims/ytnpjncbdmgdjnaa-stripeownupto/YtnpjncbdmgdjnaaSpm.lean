/- A document's columns in numbers. -/
import Derived.Test.YtnpjncbdmgdjnaaPol
namespace Sp
open Pol
/-- Column i of k bytes. -/
def col (d : List Nat) (k i : Nat) : List Nat := (List.range k).map fun j => co d (i * k + j)
theorem col_len (d : List Nat) (k i : Nat) : (col d k i).length = k := by simp [col]
theorem col_at {d : List Nat} {k i j : Nat} (hj : j < k) : co (col d k i) j = co d (i * k + j) := by
  simp [co, col, hj]
theorem col_bb {d : List Nat} (h : BB d) (k i : Nat) : BB (col d k i) := fun x hx => by
  obtain ⟨j, _, rfl⟩ := List.mem_map.1 hx
  exact h.co _
/-- How many there are. -/
def cnt (n k : Nat) : Nat := if n = 0 ∨ k = 0 then 0 else (n - 1) / k + 1
theorem cnt_none (n : Nat) : cnt n 0 = 0 := by simp [cnt]
theorem cnt_lt {n k i : Nat} (hk : 0 < k) : i < cnt n k ↔ i * k < n := by
  unfold cnt
  by_cases h0 : n = 0
  · subst h0; simp
  · rw [if_neg (by omega), Nat.lt_succ_iff, Nat.le_div_iff_mul_le hk]
    omega
theorem cnt_le (n k : Nat) : cnt n k ≤ n := by
  by_cases hk : k = 0
  · subst hk; rw [cnt_none]; exact Nat.zero_le _
  by_cases h : cnt n k = 0
  · omega
  · have h1 := (cnt_lt (n := n) (k := k) (by omega) (i := cnt n k - 1)).1 (by omega)
    have h2 : cnt n k - 1 ≤ (cnt n k - 1) * k := Nat.le_mul_of_pos_right _ (by omega)
    omega
/-- The columns hold all. -/
theorem cnt_all {n k : Nat} (hk : 0 < k) : n ≤ cnt n k * k := by
  have h := (cnt_lt (n := n) (k := k) (i := cnt n k) hk)
  omega
theorem cnt_room {n k : Nat} (hk : 0 < k) : cnt n k * k ≤ n + k := by
  by_cases h : cnt n k = 0
  · rw [h]; omega
  · have h1 := (cnt_lt (n := n) (k := k) hk (i := cnt n k - 1)).1 (by omega)
    obtain ⟨q, hq⟩ : ∃ q, cnt n k = q + 1 := ⟨cnt n k - 1, by omega⟩
    rw [hq] at h1 ⊢
    rw [Nat.add_sub_cancel] at h1
    rw [Nat.succ_mul]; omega
theorem cnt_zero {n k : Nat} (hk : 0 < k) : cnt n k = 0 ↔ n = 0 := by
  have h := cnt_lt (n := n) (k := k) (i := 0) hk
  rw [Nat.zero_mul] at h
  omega
/-- A byte more. -/
theorem cnt_more {n k : Nat} (hk : 0 < k) : cnt (n + 1) k = cnt n k + (if n % k = 0 then 1 else 0) := by
  unfold cnt
  rw [if_neg (by omega), Nat.add_sub_cancel]
  by_cases h0 : n = 0
  · subst h0; simp
  · rw [if_neg (by omega)]
    obtain ⟨m, rfl⟩ : ∃ m, n = m + 1 := ⟨n - 1, by omega⟩
    rw [Nat.add_sub_cancel, Nat.succ_div]
    by_cases hd : k ∣ m + 1
    · rw [if_pos hd, if_pos (Nat.mod_eq_zero_of_dvd hd)]
    · rw [if_neg hd, if_neg (fun h => hd (Nat.dvd_of_mod_eq_zero h))]
theorem col_more {d : List Nat} {k i x : Nat} (h : i * k + k ≤ d.length) : col (d ++ [x]) k i = col d k i := by
  unfold col
  refine List.map_congr_left fun j hj => ?_
  have := List.mem_range.1 hj
  exact co_append_left (by omega)
/-- The same of any ints. -/
def colsZ (s k : Int) : Int := if s ≤ 0 ∨ k < 1 then 0 else (s - 1) / k + 1
theorem colsZ_nat (n k : Nat) : colsZ (n : Int) (k : Int) = (cnt n k : Int) := by
  unfold colsZ cnt
  by_cases h : n = 0 ∨ k = 0
  · rw [if_pos (by omega), if_pos h]; rfl
  · rw [if_neg (by omega), if_neg h]
    have : (n : Int) - 1 = ((n - 1 : Nat) : Int) := by omega
    rw [this]
    simp
/-- Rows one behind the other. -/
def cat (l : Nat → List Nat) : Nat → List Nat
  | 0 => []
  | k + 1 => cat l k ++ l k
theorem cat_len {l : Nat → List Nat} {k R : Nat} (h : ∀ i, i < R → (l i).length = k) : (cat l R).length = R * k := by
  induction R with
  | zero => simp [cat]
  | succ R ih => rw [cat, List.length_append, ih (fun i hi => h i (by omega)), h R (by omega), Nat.succ_mul]
theorem cat_co {l : Nat → List Nat} {k R : Nat} (h : ∀ i, i < R → (l i).length = k) {i j : Nat} (hi : i < R) (hj : j < k) : co (cat l R) (i * k + j) = co (l i) j := by
  induction R with
  | zero => omega
  | succ R ih =>
    have hl := cat_len (l := l) (k := k) (R := R) (fun i hi => h i (by omega))
    rw [cat]
    by_cases hiR : i < R
    · have : i * k + j < R * k := by
        have := Nat.mul_le_mul_right k (show i + 1 ≤ R from hiR)
        rw [Nat.succ_mul] at this
        omega
      rw [co_append_left (by omega)]
      exact ih (fun i hi => h i (by omega)) hiR
    · have : i = R := by omega
      subst this
      rw [co_append_right (by omega), hl]
      congr 1; omega
/-- The columns one behind the other begin with the document. -/
theorem cat_col {d : List Nat} {k : Nat} (hk : 0 < k) : (cat (col d k) (cnt d.length k)).take d.length = d := by
  have hlen := cat_len (l := col d k) (k := k) (R := cnt d.length k) (fun i _ => col_len d k i)
  have hall := cnt_all (n := d.length) hk
  apply List.ext_getElem
  · rw [List.length_take]; omega
  · intro i h1 h2
    have hq : i / k < cnt d.length k := (cnt_lt hk).2 (by have := Nat.div_mul_le_self i k; omega)
    have hi : i = i / k * k + i % k := by have := Nat.div_add_mod i k; rw [Nat.mul_comm] at this; omega
    have h3 : co (cat (col d k) (cnt d.length k)) i = co d i := by
      have h4 := cat_co (l := col d k) (k := k) (fun i _ => col_len d k i) hq (Nat.mod_lt i hk)
      rw [← hi, col_at (Nat.mod_lt i hk), ← hi] at h4
      exact h4
    rw [co_get (by omega), co_get h2] at h3
    rw [List.getElem_take]
    exact h3
/-- The first i bytes of a column, and noughts. -/
def pre (d : List Nat) (k q i : Nat) : List Nat := (List.range k).map fun j => if j < i then co d (q * k + j) else 0
theorem pre_len (d : List Nat) (k q i : Nat) : (pre d k q i).length = k := by simp [pre]
theorem pre_zero (d : List Nat) (k q : Nat) : pre d k q 0 = List.replicate k 0 := by
  apply List.ext_getElem
  · simp [pre]
  · intro i h1 h2; simp [pre]
theorem pre_set {d : List Nat} {k q i : Nat} : (pre d k q i).set i (co d (q * k + i)) = pre d k q (i + 1) := by
  apply List.ext_getElem
  · simp [pre]
  · intro j h1 h2
    simp only [pre, List.getElem_set, List.getElem_map, List.getElem_range]
    by_cases hj : i = j
    · subst hj; simp
    · rw [if_neg hj]
      by_cases h3 : j < i
      · rw [if_pos h3, if_pos (by omega)]
      · rw [if_neg h3, if_neg (by omega)]
theorem pre_done {d : List Nat} {k q i : Nat} (h : k ≤ i ∨ d.length ≤ q * k + i) : pre d k q i = col d k q := by
  apply List.ext_getElem
  · simp [pre, col]
  · intro j h1 h2
    simp only [pre, col, List.getElem_map, List.getElem_range]
    by_cases hj : j < i
    · rw [if_pos hj]
    · rw [if_neg hj, co_far]
      have : j < k := by simpa [pre] using h1
      omega
end Sp
