/- Small facts on worlds that the walks of this claim use: a block whose cells hold a known row, whatever program is run; an ending's number. -/
import Derived.RangeFuncNested
import Derived.RangeFuncBound
import Derived.RangeFuncCalls
import Derived.RangeFuncLeaves
import Derived.Shelf.Abstract
import Derived.Shelf.RegionOpen
import Derived.WalkKit
import Derived.OwnWalkIn
import Derived.TacticsInMore
import Derived.LoopNIn
import Derived.LoopIn
import Derived.WalkSpells
import Derived.WalkLawsBesides
import Derived.Laws.BitsAllLaws
import Derived.BigQuiet
import Derived.Deep.QuietTactic
import Derived.Lib.Hide
namespace Gw
open Go Go.RowKit Go.Shelf

theorem ret_int {k : IntKind} {a b : Int} (h : a = b) : Ending.returned (.int k a) = .returned (.int k b) := by rw [h]

/-- A block's first n cells hold f, and may be written. -/
def Row (W : World) (b n : Nat) (f : Nat → Value) : Prop := ∀ o, o < n → W.cell? ⟨b, o, none⟩ = some (f o) ∧ W.frozen? ⟨b, o, none⟩ = false
theorem Row.set {W : World} {b n o : Nat} {f : Nat → Value} (h : Row W b n f) (ho : o < n) (v : Value) : Row (W.setCell ⟨b, o, none⟩ v) b n (fun j => if j = o then v else f j) := fun j hj => by
  refine ⟨?_, by rw [World.frozen?_setCell]; exact (h j hj).2⟩
  by_cases e : j = o
  · subst e; simp only [if_true]; exact World.cell?_setCell_same _ _ _ (h j hj).1
  · simp only [if_neg e]; rw [World.cell?_setCell_other _ _ _ _ (fun h => e (by cases h; rfl))]; exact (h j hj).1
theorem Row.congr {W : World} {b n : Nat} {f g : Nat → Value} (h : Row W b n f) (e : ∀ o, o < n → f o = g o) : Row W b n g := fun o ho => by rw [← e o ho]; exact h o ho
theorem Row.own {β : Type} (b n : Nat) (f : β → Nat → Value) : Own (fun s W => Row W b n (f s)) := fun _ _ _ _ hs hg hr o ho => ⟨cell_kept (hs o ho).1 hg hr, (frozen_kept (hs o ho).1 hg hr).trans (hs o ho).2⟩
theorem Row.below {W W' : World} {b n B : Nat} {f : Nat → Value} (h : Row W b n f) (hb : Below B W W') (hB : b < B) : Row W' b n f := fun o ho => ⟨(hb.cell (p := ⟨b, o, none⟩) hB).trans (h o ho).1, (hb.frozen (p := ⟨b, o, none⟩) hB).trans (h o ho).2⟩
theorem Row.new (w : World) (cs : Array Value) (t : TypeId) (n : Nat) (f : Nat → Value) (h : ∀ o, o < n → cs[o]? = some (f o)) : Row (w.alloc (.cells cs t)) w.heap.size n f := fun o ho =>
  ⟨(World.cell?_alloc_new w cs t o).trans (h o ho), World.frozen?_alloc_new w cs t o⟩
theorem Row.drewN {W : World} {b n : Nat} {f : Nat → Value} (h : Row W b n f) (k : Nat) : Row (W.drewN k) b n f := h
theorem cell_new (w : World) (v : Value) (t : TypeId) : (w.alloc (.cells #[v] t)).cell? ⟨w.heap.size, 0, none⟩ = some v := World.cell?_alloc_new w #[v] t 0
theorem Below.drewN {B : Nat} {a w : World} (h : Below B a w) (n : Nat) : Below B a (w.drewN n) := ⟨h.os, h.tape, h.output, h.size, h.block⟩
theorem drewN_below {n : Nat} {w w' : World} (h : Below (w.drewN n).heap.size (w.drewN n) w') : Below w.heap.size w w' := ⟨h.os, h.tape, h.output, h.size, h.block⟩

/-! int's bits, of numbers that are not below 0. -/
theorem ofInt_i64 (a : Nat) (ha : a < 9223372036854775808) : (BitVec.ofInt 64 (a : Int)).toNat = a := by
  rw [BitVec.toNat_ofInt]; omega
theorem wrap64_nat (n : Nat) (h : n < 9223372036854775808) : wrap64 (n : Int) = (n : Int) := by unfold wrap64; omega
theorem i64_xor_nat (a b : Nat) (ha : a < 9223372036854775808) (hb : b < 9223372036854775808) : bits .xor .i64 (a : Int) (b : Int) = ((a ^^^ b : Nat) : Int) := by
  have hx : a ^^^ b < 2 ^ 63 := Nat.xor_lt_two_pow (by omega) (by omega)
  show IntKind.i64.wrap ((BitVec.ofInt 64 (a : Int) ^^^ BitVec.ofInt 64 (b : Int)).toNat : Int) = _
  rw [BitVec.toNat_xor, ofInt_i64 a ha, ofInt_i64 b hb, IntKind.wrap_i64]; omega
theorem i64_and_nat (a b : Nat) (ha : a < 9223372036854775808) (hb : b < 9223372036854775808) : bits .and .i64 (a : Int) (b : Int) = ((a &&& b : Nat) : Int) := by
  have hx : a &&& b < 2 ^ 63 := Nat.and_lt_two_pow _ (by omega)
  show IntKind.i64.wrap ((BitVec.ofInt 64 (a : Int) &&& BitVec.ofInt 64 (b : Int)).toNat : Int) = _
  rw [BitVec.toNat_and, ofInt_i64 a ha, ofInt_i64 b hb, IntKind.wrap_i64]; omega
/-- The test of bit k. -/
theorem i64_bit (a k : Nat) (ha : a < 9223372036854775808) : (bits .and .i64 ((a : Int) / 2 ^ k) 1 == 1) = a.testBit k := by
  have e : ((a : Int) / 2 ^ k) = ((a / 2 ^ k : Nat) : Int) := by simp
  have h1 : a / 2 ^ k < 9223372036854775808 := Nat.lt_of_le_of_lt (Nat.div_le_self _ _) ha
  rw [e, show (1 : Int) = ((1 : Nat) : Int) from rfl, i64_and_nat _ _ h1 (by omega), Nat.testBit_eq_decide_div_mod_eq, Nat.and_one_is_mod]
  generalize a / 2 ^ k % 2 = x
  cases hx : decide (x = 1)
  · rw [decide_eq_false_iff_not] at hx; rw [beq_eq_false_iff_ne]; omega
  · rw [decide_eq_true_eq] at hx; subst hx; rfl
end Gw
