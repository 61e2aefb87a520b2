/- Parts, put one behind the other and read again, in numbers. -/
import Derived.Test.YtabalhhodcajmaaWdd
namespace Gw
open Go Go.RowKit Go.Shelf Pol
theorem wrL_nil (l : List Nat) (bad : Bool) (b : List Nat) : (wrL l bad b).2 = true → (wrL l bad b).1 = [] := by
  unfold wrL
  cases okL b <;> cases bad <;> simp
theorem wrN_nil (l : List Nat) (bad : Bool) (n : Int) : (wrN l bad n).2 = true → (wrN l bad n).1 = [] := by
  unfold wrN
  cases okN n <;> cases bad <;> simp
theorem wrN_len (l : List Nat) (bad : Bool) (n : Int) : (wrN l bad n).1.length ≤ l.length + 4 := by
  unfold wrN
  cases okN n <;> cases bad <;> simp [num_len]
theorem wrL_len (l : List Nat) (bad : Bool) (b : List Nat) : (wrL l bad b).1.length ≤ l.length + 65537 := by
  unfold wrL
  split
  · rename_i h
    have := okL_iff.1 h
    split
    · simp
    · rw [List.length_append, lay_len]; omega
  · simp
/-- A part: bytes, if there are any, and else a number. -/
def pw (z : Int) (L : List Nat) : List Nat := if 0 < L.length then lay L else num z
def okP (z : Int) (L : List Nat) : Bool := if 0 < L.length then okL L else okN z
theorem pw_pos (z : Int) (L : List Nat) : 2 ≤ (pw z L).length := by
  unfold pw
  split
  · rw [lay_len]; omega
  · exact (by decide : 2 ≤ 4)
theorem pw_len (z : Int) (L : List Nat) : (pw z L).length ≤ 3 * L.length + 4 := by
  unfold pw
  split
  · rw [lay_len]; omega
  · show 4 ≤ _; omega
/-- The first k of them. -/
def acc (N : Nat → Int) (l : Nat → List Nat) : Nat → List Nat
  | 0 => []
  | k + 1 => acc N l k ++ pw (N k) (l k)
/-- n of them from k on. -/
def seg (N : Nat → Int) (l : Nat → List Nat) (k : Nat) : Nat → List Nat
  | 0 => []
  | n + 1 => pw (N k) (l k) ++ seg N l (k + 1) n
theorem acc_seg (N : Nat → Int) (l : Nat → List Nat) (n k : Nat) : acc N l k ++ seg N l k n = acc N l (k + n) := by
  induction n generalizing k with
  | zero => simp [seg]
  | succ n ih =>
    have := ih (k + 1)
    rw [show k + 1 + n = k + (n + 1) by omega] at this
    rw [← this]
    show acc N l k ++ (pw (N k) (l k) ++ seg N l (k + 1) n) = acc N l k ++ pw (N k) (l k) ++ seg N l (k + 1) n
    rw [List.append_assoc]
theorem acc_all (N : Nat → Int) (l : Nat → List Nat) (n : Nat) : acc N l n = seg N l 0 n := by
  have := acc_seg N l n 0
  rw [Nat.zero_add] at this
  rw [← this]; rfl
/-- The writer's row, the book's, and whether something can not be, behind k parts. -/
structure Jn (N : Nat → Int) (l : Nat → List Nat) (k : Nat) (lw lk : List Nat) (b : Bool) : Prop where
  nil : b = true → lw = []
  same : b = false → lw = lk ∧ lk = acc N l k ∧ ∀ j, j < k → okP (N j) (l j) = true
  len : lk.length ≤ 3 * tot l k + 4 * k
  lenw : lw.length ≤ 3 * tot l k + 4 * k
theorem Jn.zero (N : Nat → Int) (l : Nat → List Nat) : Jn N l 0 [] [] false := ⟨fun _ => rfl, fun _ => ⟨rfl, rfl, fun _ h => by omega⟩, Nat.zero_le _, Nat.zero_le _⟩
theorem wr_bk_L (lw lk : List Nat) (b : Bool) (L : List Nat) : (wrL lw b L).2 = (bkL lk b L).2 := by
  unfold wrL bkL
  cases okL L <;> cases b <;> simp
theorem wr_bk_N (lw lk : List Nat) (b : Bool) (z : Int) : (wrN lw b z).2 = (bkN lk b z).2 := by
  unfold wrN bkN
  cases okN z <;> cases b <;> simp
theorem Jn.bytes {N : Nat → Int} {l : Nat → List Nat} {k : Nat} {lw lk : List Nat} {b : Bool} (h : Jn N l k lw lk b) (h0 : 0 < (l k).length) : Jn N l (k + 1) (wrL lw b (l k)).1 (bkL lk b (l k)).1 (bkL lk b (l k)).2 := by
  have htot : tot l (k + 1) = tot l k + (l k).length := rfl
  refine ⟨fun hb => wrL_nil _ _ _ (by rw [wr_bk_L lw lk]; exact hb), fun hb => ?_, ?_, ?_⟩
  · have hb' := hb
    rw [bkL_eq] at hb'
    simp only [Bool.or_eq_false_iff, Bool.not_eq_false'] at hb'
    obtain ⟨rfl, ho⟩ := hb'
    obtain ⟨h1, h2, h3⟩ := h.same rfl
    have e1 : (wrL lw false (l k)).1 = lw ++ lay (l k) := by unfold wrL; rw [ho]; rfl
    have e2 : (bkL lk false (l k)).1 = lk ++ lay (l k) := by unfold bkL; rw [ho]; rfl
    have e3 : pw (N k) (l k) = lay (l k) := by unfold pw; rw [if_pos h0]
    rw [e1, e2, h1]
    refine ⟨rfl, ?_, fun j hj => ?_⟩
    · show _ = acc N l k ++ pw (N k) (l k)
      rw [e3, h2]
    · by_cases e : j = k
      · subst e; unfold okP; rw [if_pos h0]; exact ho
      · exact h3 j (by omega)
  · rw [bkL_eq, htot]
    have := orN_lay (l k)
    have := h.len
    simp only [List.length_append]
    omega
  · rw [htot]
    have := h.lenw
    unfold wrL
    split
    · split
      · simp
      · rw [List.length_append, lay_len]; omega
    · simp
theorem Jn.num {N : Nat → Int} {l : Nat → List Nat} {k : Nat} {lw lk : List Nat} {b : Bool} (h : Jn N l k lw lk b) (h0 : (l k).length = 0) : Jn N l (k + 1) (wrN lw b (N k)).1 (bkN lk b (N k)).1 (bkN lk b (N k)).2 := by
  have htot : tot l (k + 1) = tot l k + (l k).length := rfl
  have hn : ¬ 0 < (l k).length := by omega
  refine ⟨fun hb => wrN_nil _ _ _ (by rw [wr_bk_N lw lk]; exact hb), fun hb => ?_, ?_, ?_⟩
  · have hb' := hb
    rw [bkN_eq] at hb'
    simp only [Bool.or_eq_false_iff, Bool.not_eq_false'] at hb'
    obtain ⟨rfl, ho⟩ := hb'
    obtain ⟨h1, h2, h3⟩ := h.same rfl
    have e1 : (wrN lw false (N k)).1 = lw ++ Gw.num (N k) := by unfold wrN; rw [ho]; rfl
    have e2 : (bkN lk false (N k)).1 = lk ++ Gw.num (N k) := by unfold bkN; rw [ho]; rfl
    have e3 : pw (N k) (l k) = Gw.num (N k) := by unfold pw; rw [if_neg hn]
    rw [e1, e2, h1]
    refine ⟨rfl, ?_, fun j hj => ?_⟩
    · show _ = acc N l k ++ pw (N k) (l k)
      rw [e3, h2]
    · by_cases e : j = k
      · subst e; unfold okP; rw [if_neg hn]; exact ho
      · exact h3 j (by omega)
  · rw [bkN_eq, htot]
    have := orN_num (N k)
    have := h.len
    simp only [List.length_append]
    omega
  · rw [htot]
    have := h.lenw
    have := wrN_len lw b (N k)
    omega
/-- Another's block is none of mine. -/
theorem far_step {wr w2 : World} {p g g' q h : Nat} (hg : g' = g ∨ g' = p ∨ wr.heap.size ≤ g') (hq : q < wr.heap.size) (hh : h < wr.heap.size) (h1 : q ≠ p) (h2 : q ≠ g) (h3 : h ≠ p) (h4 : h ≠ g) (_ : K2 wr w2 p g) : g' ≠ q ∧ g' ≠ h := by omega
/-- What is read next. -/
theorem seg_lay {N : Nat → Int} {l : Nat → List Nat} {k n : Nat} (h0 : 0 < (l k).length) (ho : okP (N k) (l k) = true) : rdL (seg N l k (n + 1)) false = (l k, seg N l (k + 1) n, false) := by
  have e3 : pw (N k) (l k) = lay (l k) := by unfold pw; rw [if_pos h0]
  have e4 : okL (l k) = true := by unfold okP at ho; rw [if_pos h0] at ho; exact ho
  show rdL (pw (N k) (l k) ++ _) false = _
  rw [e3, rdL_lay e4]
theorem seg_num {N : Nat → Int} {l : Nat → List Nat} {k n : Nat} (h0 : (l k).length = 0) (ho : okP (N k) (l k) = true) : rdN (seg N l k (n + 1)) false = (N k, seg N l (k + 1) n, false) := by
  have hn : ¬ 0 < (l k).length := by omega
  have e3 : pw (N k) (l k) = Gw.num (N k) := by unfold pw; rw [if_neg hn]
  have e4 : okN (N k) = true := by unfold okP at ho; rw [if_neg hn] at ho; exact ho
  show rdN (pw (N k) (l k) ++ _) false = _
  rw [e3, rdN_num e4]
theorem seg_pos (N : Nat → Int) (l : Nat → List Nat) (k n : Nat) : (seg N l k (n + 1)).length ≠ 0 := by
  have := pw_pos (N k) (l k)
  show (pw (N k) (l k) ++ _).length ≠ 0
  rw [List.length_append]; omega
end Gw
