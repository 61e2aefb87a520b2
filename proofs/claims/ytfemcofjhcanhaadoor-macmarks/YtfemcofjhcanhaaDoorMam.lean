/- HMAC-SHA-256 in numbers; and bytes held against one another, byte by byte. -/
import Derived.Test.YtfemcofjhcanhaaDoorShm
namespace Sh
open Pol
/-- The key, or its sum where it is longer than a block. -/
def mk (k : List Nat) : List Nat := if 64 < k.length then sum k else k
theorem mk_le (k : List Nat) : (mk k).length ≤ 64 := by
  unfold mk
  split
  · rw [sum_len]; omega
  · omega
theorem mk_bb {k : List Nat} (h : BB k) : BB (mk k) := by
  unfold mk
  split
  · exact sum_bb _
  · exact h
/-- A block of it: noughts behind. -/
def mb (k : List Nat) : List Nat := mk k ++ List.replicate (64 - (mk k).length) 0
theorem mb_len (k : List Nat) : (mb k).length = 64 := by have := mk_le k; simp [mb]; omega
theorem mb_bb {k : List Nat} (h : BB k) : BB (mb k) := (mk_bb h).append (fun x hx => by rw [List.eq_of_mem_replicate hx]; omega)
theorem mb_co (k : List Nat) (i : Nat) : co (mb k) i = co (mk k) i := by
  by_cases h : i < (mk k).length
  · exact co_append_left h
  · rw [mb, co_append_right (by omega)]
    have h1 : co (mk k) i = 0 := by simp [co, List.getElem?_eq_none (show (mk k).length ≤ i by omega)]
    rw [h1]
    rw [co, List.getD_eq_getElem?_getD, List.getElem?_replicate]
    split <;> rfl
/-- Each byte xor x. -/
def mp (B : List Nat) (x : Nat) : List Nat := B.map (fun y => y ^^^ x)
theorem mp_len (B : List Nat) (x : Nat) : (mp B x).length = B.length := by simp [mp]
theorem mp_bb {B : List Nat} (h : BB B) {x : Nat} (hx : x < 256) : BB (mp B x) := fun y hy => by
  simp only [mp, List.mem_map] at hy
  obtain ⟨z, hz, rfl⟩ := hy
  exact Nat.xor_lt_two_pow (n := 8) (h z hz) hx
theorem mp_at {B : List Nat} {x k : Nat} (hk : k < B.length) : (mp B x)[k]? = some (co B k ^^^ x) := by
  simp [mp, List.getElem?_eq_getElem hk, co_get hk]
theorem mp_step {B : List Nat} {x k : Nat} (hk : k < B.length) : (mp B x).take (k + 1) = (mp B x).take k ++ [co B k ^^^ x] := by
  rw [List.take_add_one, mp_at hk]; rfl
/-- The mark of b by k. -/
def hm (k b : List Nat) : List Nat := sum (mp (mb k) 92 ++ sum (mp (mb k) 54 ++ b))
theorem hm_len (k b : List Nat) : (hm k b).length = 32 := sum_len _
theorem hm_bb (k b : List Nat) : BB (hm k b) := sum_bb _
theorem mb_long {k : List Nat} (h : 64 < k.length) : mb (sum k) = mb k := by
  have h1 : mk (sum k) = sum k := by rw [mk, if_neg (by rw [sum_len]; omega)]
  have h2 : mk k = sum k := by rw [mk, if_pos h]
  rw [mb, mb, h1, h2]
theorem mb_fill {k : List Nat} (h : k.length ≤ 63) : mb (k ++ [0]) = mb k := by
  have h1 : mk (k ++ [0]) = k ++ [0] := by rw [mk, if_neg (by simp; omega)]
  have h2 : mk k = k := by rw [mk, if_neg (by omega)]
  rw [mb, mb, h1, h2, List.length_append, List.length_singleton, List.append_assoc]
  congr 1
  rw [show 64 - k.length = (64 - (k.length + 1)) + 1 by omega, List.replicate_succ]; rfl
theorem hm_long {k : List Nat} (h : 64 < k.length) (b : List Nat) : hm (sum k) b = hm k b := by rw [hm, hm, mb_long h]
theorem hm_fill {k : List Nat} (h : k.length ≤ 63) (b : List Nat) : hm (k ++ [0]) b = hm k b := by rw [hm, hm, mb_fill h]
set_option maxRecDepth 100000 in
theorem hm_none : co (hm [] []) 0 = 182 ∧ co (hm [] []) 1 = 19 := by decide +kernel
/-- What is unlike in the first places. -/
def ox (l m : List Nat) : Nat → Nat
  | 0 => 0
  | k + 1 => ox l m k ||| (co l k ^^^ co m k)
theorem xor_zero {a b : Nat} (h : a ^^^ b = 0) : a = b := by
  have e : (a ^^^ b) ^^^ b = b := by rw [h, Nat.zero_xor]
  rwa [Nat.xor_assoc, Nat.xor_self, Nat.xor_zero] at e
theorem or_zero {a b : Nat} : a ||| b = 0 ↔ a = 0 ∧ b = 0 := Nat.or_eq_zero_iff
theorem ox_zero (l m : List Nat) : ∀ k, ox l m k = 0 ↔ ∀ i, i < k → co l i = co m i
  | 0 => ⟨fun _ i h => by omega, fun _ => rfl⟩
  | k + 1 => by
    rw [ox, or_zero, ox_zero l m k]
    constructor
    · rintro ⟨h1, h2⟩ i hi
      by_cases e : i = k
      · subst e; exact xor_zero h2
      · exact h1 i (by omega)
    · intro h
      exact ⟨fun i hi => h i (by omega), by rw [h k (by omega)]; exact Nat.xor_self _⟩
theorem ox_lt {l m : List Nat} (hl : BB l) (hm : BB m) : ∀ k, ox l m k < 256
  | 0 => by rw [ox]; omega
  | k + 1 => Nat.or_lt_two_pow (n := 8) (ox_lt hl hm k) (Nat.xor_lt_two_pow (n := 8) (hl.co k) (hm.co k))
theorem ox_same {l m : List Nat} (h : l.length = m.length) : ox l m l.length = 0 ↔ l = m := by
  rw [ox_zero]
  constructor
  · intro hh
    refine List.ext_getElem h fun i h1 h2 => ?_
    have := hh i h1
    rwa [co_get h1, co_get h2] at this
  · rintro rfl i _; rfl
end Sh
