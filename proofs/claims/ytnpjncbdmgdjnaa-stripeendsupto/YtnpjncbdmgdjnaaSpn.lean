/- Columns in numbers: a column is a piece of the document and noughts; a document put together piece by piece. -/
import Derived.Test.YtnpjncbdmgdjnaaSpm
namespace Sp
open Pol
/-- A column: what is left of the document, at most k bytes of it, and noughts. -/
theorem col_piece (d : List Nat) (k i m : Nat) (hm : m = min k (d.length - i * k)) : col d k i = (d.drop (i * k)).take m ++ List.replicate (k - m) 0 := by
  have hl : ((d.drop (i * k)).take m).length = m := by rw [List.length_take, List.length_drop]; omega
  apply List.ext_getElem
  · rw [col_len, List.length_append, hl, List.length_replicate]; omega
  · intro j h1 h2
    have hj : j < k := by rw [col_len] at h1; exact h1
    simp only [col, List.getElem_map, List.getElem_range]
    by_cases hjm : j < m
    · rw [List.getElem_append_left (by omega), List.getElem_take, List.getElem_drop, co_get (by omega)]
    · rw [List.getElem_append_right (by omega), List.getElem_replicate, co_far (by omega)]
/-- A document of s bytes that q columns have been laid into. -/
def part (l : Nat → List Nat) (s k q : Nat) : List Nat := (cat l q).take s ++ List.replicate (s - q * k) 0
theorem part_zero (l : Nat → List Nat) (s k : Nat) : part l s k 0 = List.replicate s 0 := by simp [part, cat]
theorem part_len {l : Nat → List Nat} {s k q : Nat} (h : ∀ i, i < q → (l i).length = k) : (part l s k q).length = s := by
  rw [part, List.length_append, List.length_take, cat_len h, List.length_replicate]; omega
theorem part_done {l : Nat → List Nat} {s k q : Nat} (h : s ≤ q * k) : part l s k q = (cat l q).take s := by
  rw [part, show s - q * k = 0 by omega]; simp
theorem part_step {l : Nat → List Nat} {s k q m : Nat} (h : ∀ i, i < q + 1 → (l i).length = k) (hq : q * k < s) (hm : m = min k (s - q * k)) :
    (part l s k q).take (q * k) ++ ((l q).take m ++ (part l s k q).drop (q * k + m)) = part l s k (q + 1) := by
  have hc := cat_len (l := l) (k := k) (R := q) (fun i hi => h i (by omega))
  have hk := h q (by omega)
  have e1 : part l s k q = cat l q ++ List.replicate (s - q * k) 0 := by
    rw [part, List.take_of_length_le (by omega)]
  have e2 : (part l s k q).take (q * k) = cat l q := by
    rw [e1, ← hc, List.take_left']
    rfl
  have e3 : (part l s k q).drop (q * k + m) = List.replicate (s - q * k - m) 0 := by
    rw [e1, ← hc, List.drop_append, List.drop_replicate, List.drop_of_length_le (by omega), List.nil_append]
    congr 1; omega
  have t1 : (cat l q).take s = cat l q := List.take_of_length_le (by omega)
  have t2 : (l q).take m = (l q).take (s - q * k) := by
    by_cases hks : k ≤ s - q * k
    · rw [List.take_of_length_le (i := m) (by omega), List.take_of_length_le (i := s - q * k) (by omega)]
    · rw [show m = s - q * k by omega]
  have t3 : s - q * k - m = s - (q * k + k) := by omega
  rw [e2, e3, part, cat, List.take_append, t1, hc, List.append_assoc, Nat.succ_mul, t2, t3]
end Sp
