/- Small facts for the second laws: two or three slices handed on together; what is spoilt is one's own row alone. -/
import Derived.Test.YtiefcfjepcgklaaPan
import Derived.Test.YtiefcfjepcgklaaRpe
import Derived.Test.YtiefcfjepcgklaaL2a
namespace Go.Proofs.Ytiefcfjepcgklaa
open Go.RowKit Go.Shelf Gw Pol

theorem slRow_two (w : World) (t : TypeId) (A0 A1 : Option Addr) (n0 c0 n1 c1 : Nat) : SlRow (w.alloc (.cells #[.slice A0 n0 c0, .slice A1 n1 c1] t)) w.heap.size [n0, n1] := fun i n h => by
  match i, h with
  | 0, h => simp at h; subst h; exact ⟨A0, c0, World.cell?_alloc_new w _ t 0⟩
  | 1, h => simp at h; subst h; exact ⟨A1, c1, World.cell?_alloc_new w _ t 1⟩
theorem slRow_three (w : World) (t : TypeId) (A0 A1 A2 : Option Addr) (n0 c0 n1 c1 n2 c2 : Nat) : SlRow (w.alloc (.cells #[.slice A0 n0 c0, .slice A1 n1 c1, .slice A2 n2 c2] t)) w.heap.size [n0, n1, n2] := fun i n h => by
  match i, h with
  | 0, h => simp at h; subst h; exact ⟨A0, c0, World.cell?_alloc_new w _ t 0⟩
  | 1, h => simp at h; subst h; exact ⟨A1, c1, World.cell?_alloc_new w _ t 1⟩
  | 2, h => simp at h; subst h; exact ⟨A2, c2, World.cell?_alloc_new w _ t 2⟩
theorem shB_two {a b : Nat} (h : shB [a, b] = true) : a ≤ 200 ∧ b ≤ 200 := by simpa [shB] using h
theorem shB_three {a b c : Nat} (h : shB [a, b, c] = true) : a ≤ 200 ∧ b ≤ 200 ∧ c ≤ 200 := by simpa [shB] using h

/-- The block of a slice. -/
def blk : Option Addr → Option Nat
  | none => none
  | some a => some a.block
theorem own_over {w w' : World} {base : Nat} {e : TypeId} {A : Option Addr} {c : Nat} {l : List Nat} {row : Option Nat} (h : Gw.Own w base e A c l) (hg : w.grownBy w' row) (hr : ∀ k, row = some k → k < base) : Gw.Own w' base e A c l := by
  refine ⟨⟨h.1.1, ?_⟩, h.2⟩
  rcases h.1.2 with h0 | ⟨k, cap, cur, hv, h1, h2, h3⟩
  · exact .inl h0
  · exact .inr ⟨k, cap, cur, hv, h1, (hg.block k (Array.getElem?_eq_some_iff.1 h2).1 (fun e => by have := hr k e.symm; omega)).trans h2, h3⟩
theorem own_apart {w w' : World} {base : Nat} {e : TypeId} {A : Option Addr} {c : Nat} {l : List Nat} {row : Option Nat} (h : Gw.Own w base e A c l) (hg : w.grownBy w' row) (hr : ∀ k, row = some k → blk A ≠ some k) : Gw.Own w' base e A c l := by
  refine ⟨⟨h.1.1, ?_⟩, h.2⟩
  rcases h.1.2 with h0 | ⟨k, cap, cur, hv, h1, h2, h3⟩
  · exact .inl h0
  · refine .inr ⟨k, cap, cur, hv, h1, (hg.block k (Array.getElem?_eq_some_iff.1 h2).1 (fun e => hr k e.symm ?_)).trans h2, h3⟩
    injection hv with hA
    subst hA
    rfl
theorem own_blk {w : World} {base : Nat} {e : TypeId} {A : Option Addr} {c : Nat} {l : List Nat} (h : Gw.Own w base e A c l) : ∀ k, blk A = some k → base ≤ k ∧ k < w.heap.size := fun k hk => by
  cases A with
  | none => cases hk
  | some a => exact h.1.lt k hk
theorem below_blk {w w' : World} {base : Nat} {e : TypeId} {A : Option Addr} {c : Nat} {l : List Nat} (h : Gw.Own w base e A c l) (hg : w.grownBy w' (blk A)) {B : Nat} (hB : B ≤ base) (hw : B ≤ w.heap.size) : Below B w w' :=
  (Below.refl B w).grown hg hw (fun k e => by have := (own_blk h k e).1; omega)
set_option maxRecDepth 100000 in
set_option maxHeartbeats 1000000 in
/-- Only one's own row is turned. -/
theorem spoil_own (A : Option Addr) (c : Nat) (l : List Nat) (w : World) (base : Nat) (hown : Gw.Own w base 5 A c l) (hcm : l.length ≤ 140737488355328) :
    Calls Try.prog 28 #[.slice A l.length c] w fun e w' => e = .returned (.tuple #[]) ∧ w.grownBy w' (blk A) := by
  go_enter Try.func28, Try.ntmps28
  go_wp2
  go_loopw [2] (fun i wr => ∃ (k : Nat) (l' : List Nat), k ≤ l.length ∧ i = .int .i64 (k : Int) ∧ l'.length = l.length ∧ Gw.Own wr base 5 A c l' ∧ w.grownBy wr (blk A)) (fun i _ => l.length - (intOf i).toNat)
  case atStart => exact ⟨0, l, Nat.zero_le _, rfl, rfl, hown, World.grownBy.refl _ _⟩
  case round =>
    obtain ⟨k, l', hk, rfl, hll, hown', hbel⟩ := hrel
    by_cases hkp : k < l.length
    · obtain ⟨g, rfl, hg, hst⟩ := Own.store hown' (by omega : k < l'.length)
      obtain ⟨x, b', off', hx, hxb, e', _, hcell⟩ := hown'.sl.at_ (by omega : k < l'.length)
      injection e' with e'
      injection e' with e1 e2
      subst e1 e2
      rw [Nat.zero_add] at hcell
      have hfr := Own.frozen hown' k
      have hxor : bits .xor .u8 (x : Int) 255 = ((x ^^^ 255 : Nat) : Int) := u8_xor_nat x 255 hxb (by omega)
      have H1 := Lib.hid (hst (x ^^^ 255) (Gf.xor_lt hxb (by omega)))
      have H2 := Lib.hid (grown_put (k := k) hbel (.int .u8 ((x ^^^ 255 : Nat) : Int)))
      have HL := Lib.hid hll
      clear hx hll hst
      go_wp2
      go_roundw
      case rel => exact ⟨k + 1, l'.set k (x ^^^ 255), by omega, by go_num, by rw [List.length_set]; exact HL.out, H1.out, H2.out⟩
      case measure => simp [intOf]; omega
    · obtain rfl : k = l.length := by omega
      go_wp2
      go_end0
      exact ⟨rfl, hbel⟩
end Go.Proofs.Ytiefcfjepcgklaa
