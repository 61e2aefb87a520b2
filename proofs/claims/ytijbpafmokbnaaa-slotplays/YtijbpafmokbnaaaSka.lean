/- A power that may go, in numbers; the memory of the definition's slot. -/
import Derived.Test.YtijbpafmokbnaaaDka
namespace Gw
open Go Go.RowKit Go.Shelf Pol
/-- How many writes are done yet (below 0: all), whether the power is gone, how many were done. -/
structure Pw where
  Z : Int
  gone : Bool
  u : Nat
/-- Is the next write done? -/
def Pw.can (s : Pw) : Bool := !s.gone && decide (s.Z ≠ 0)
/-- Behind the next write. -/
def Pw.one (s : Pw) : Pw := ⟨if s.can && decide (0 < s.Z) then s.Z - 1 else s.Z, !s.can, if s.can then s.u + 1 else s.u⟩
/-- Behind n writes, or that which is not done. -/
def Pw.go : Nat → Pw → Pw
  | 0, s => s
  | n + 1, s => bif s.can then Pw.go n s.one else s.one
/-- Are n writes done? -/
def Pw.ok : Nat → Pw → Bool
  | 0, _ => true
  | n + 1, s => s.can && Pw.ok n s.one
theorem Pw.go_snoc : ∀ (n : Nat) (s : Pw), Pw.ok n s = true → Pw.go (n + 1) s = (Pw.go n s).one
  | 0, s, _ => by
    show (bif s.can then s.one else s.one) = s.one
    cases s.can <;> rfl
  | n + 1, s, h => by
    simp only [Pw.ok, Bool.and_eq_true] at h
    show (bif s.can then Pw.go (n + 1) s.one else s.one) = (bif s.can then Pw.go n s.one else s.one).one
    rw [h.1]
    exact Pw.go_snoc n s.one h.2
theorem Pw.ok_snoc : ∀ (n : Nat) (s : Pw), Pw.ok (n + 1) s = (Pw.ok n s && (Pw.go n s).can)
  | 0, s => by simp [Pw.ok, Pw.go]
  | n + 1, s => by
    show (s.can && Pw.ok (n + 1) s.one) = ((s.can && Pw.ok n s.one) && (bif s.can then Pw.go n s.one else s.one).can)
    rw [Pw.ok_snoc n s.one]
    cases s.can <;> simp
/-- Where one is not done nothing behind it is. -/
theorem Pw.stops : ∀ (n k : Nat) (s : Pw), Pw.ok n s = true → (Pw.go n s).can = false → Pw.go (n + 1 + k) s = (Pw.go n s).one ∧ Pw.ok (n + 1 + k) s = false
  | 0, k, s, _, h => by
    have h' : s.can = false := h
    rw [show 0 + 1 + k = k + 1 by omega]
    constructor
    · show (bif s.can then Pw.go k s.one else s.one) = s.one
      rw [h']; rfl
    · show (s.can && Pw.ok k s.one) = false
      rw [h']; rfl
  | n + 1, k, s, h1, h2 => by
    simp only [Pw.ok, Bool.and_eq_true] at h1
    have h2' : (Pw.go n s.one).can = false := by
      have : (bif s.can then Pw.go n s.one else s.one).can = false := h2
      rwa [h1.1] at this
    obtain ⟨i1, i2⟩ := Pw.stops n k s.one h1.2 h2'
    rw [show n + 1 + 1 + k = (n + 1 + k) + 1 by omega]
    constructor
    · show (bif s.can then Pw.go (n + 1 + k) s.one else s.one) = (bif s.can then Pw.go n s.one else s.one).one
      rw [h1.1]; exact i1
    · show (s.can && Pw.ok (n + 1 + k) s.one) = false
      rw [i2, Bool.and_false]
theorem Pw.one_yes {s : Pw} (h : s.can = true) : s.one = ⟨if 0 < s.Z then s.Z - 1 else s.Z, false, s.u + 1⟩ := by
  unfold Pw.one; rw [h]; simp
theorem Pw.one_no {s : Pw} (h : s.can = false) : s.one = ⟨s.Z, true, s.u⟩ := by
  unfold Pw.one; rw [h]; simp
theorem Pw.can_yes {s : Pw} (h : s.can = true) : s.gone = false ∧ s.Z ≠ 0 := by
  unfold Pw.can at h; simpa using h
theorem Pw.can_no {s : Pw} (h : s.can = false) : s.gone = true ∨ s.Z = 0 := by
  unfold Pw.can at h
  rw [Bool.and_eq_false_iff] at h
  rcases h with h | h
  · left; simpa using h
  · right; simpa using h
/-- No more than n more were done. -/
theorem Pw.go_u : ∀ (n : Nat) (s : Pw), (Pw.go n s).u ≤ s.u + n ∧ s.u ≤ (Pw.go n s).u
  | 0, s => ⟨Nat.le_refl _, Nat.le_refl _⟩
  | n + 1, s => by
    have hg : Pw.go (n + 1) s = bif s.can then Pw.go n s.one else s.one := rfl
    cases hc : s.can with
    | true =>
      rw [hg, hc]
      have h := Pw.go_u n s.one
      have h2 : s.one.u = s.u + 1 := by rw [Pw.one_yes hc]
      show (Pw.go n s.one).u ≤ _ ∧ _ ≤ (Pw.go n s.one).u
      omega
    | false =>
      rw [hg, hc]
      have h2 : s.one.u = s.u := by rw [Pw.one_no hc]
      show s.one.u ≤ _ ∧ _ ≤ s.one.u
      omega
/-- A fuse is from -1 to int's end. -/
def Pw.fit (s : Pw) : Prop := -1 ≤ s.Z ∧ s.Z ≤ 9223372036854775807
theorem Pw.one_fit {s : Pw} (h : s.fit) : s.one.fit := by
  unfold Pw.fit at h ⊢
  cases hc : s.can with
  | true =>
    rw [Pw.one_yes hc]
    show -1 ≤ (if 0 < s.Z then s.Z - 1 else s.Z) ∧ (if 0 < s.Z then s.Z - 1 else s.Z) ≤ _
    split <;> omega
  | false => rw [Pw.one_no hc]; exact h
theorem Pw.go_fit : ∀ (n : Nat) (s : Pw), s.fit → (Pw.go n s).fit
  | 0, _, h => h
  | n + 1, s, h => by
    show (bif s.can then Pw.go n s.one else s.one).fit
    cases s.can with
    | true => exact Pw.go_fit n s.one (Pw.one_fit h)
    | false => exact Pw.one_fit h
/-- How many blocks n bytes take. -/
def tk (n : Nat) : Nat := (n + 31) / 32
end Gw
