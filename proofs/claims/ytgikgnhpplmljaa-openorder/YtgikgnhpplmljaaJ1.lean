import Derived.RangeFuncNested
import Derived.RangeFuncBound
import Derived.RangeFuncCalls
import Derived.RangeFuncLeaves
import Derived.Shelf.Abstract
import Derived.Shelf.RegionOpen
import Derived.WalkKit
import Derived.OwnWalkIn
import Derived.TacticsInMore
import Derived.LoopNIn
import Derived.LoopIn
import Derived.WalkSpells
import Derived.WalkLawsBesides
import Derived.Laws.BitsAllLaws
import Derived.BigQuiet
import Derived.Deep.QuietTactic
import Derived.Lib.Hide
import Derived.Laws.AppendOwnNone
import Derived.Maps.AppendAt
import Derived.Laws.CopyOwn
import Derived.Laws.BytesArg
import Derived.Deep.RegionHeld3
import Derived.StillTailTactics
import Derived.Deep.RegionLaw
import Derived.Deep.OwnRows
import Derived.ProofKit
import Derived.OpenShut
import Derived.SizedLaws
import Derived.ChangeOld
import Derived.Carry
section
/- Small facts on worlds that the walks of this claim use: a block whose cells hold a known row, whatever program is run; an ending's number. -/
namespace Gw
open Go Go.RowKit Go.Shelf

theorem ret_int {k : IntKind} {a b : Int} (h : a = b) : Ending.returned (.int k a) = .returned (.int k b) := by rw [h]

/-- A block's first n cells hold f, and may be written. -/
def Row (W : World) (b n : Nat) (f : Nat → Value) : Prop := ∀ o, o < n → W.cell? ⟨b, o, none⟩ = some (f o) ∧ W.frozen? ⟨b, o, none⟩ = false
theorem Row.set {W : World} {b n o : Nat} {f : Nat → Value} (h : Row W b n f) (ho : o < n) (v : Value) : Row (W.setCell ⟨b, o, none⟩ v) b n (fun j => if j = o then v else f j) := fun j hj => by
  refine ⟨?_, by rw [World.frozen?_setCell]; exact (h j hj).2⟩
  by_cases e : j = o
  · subst e; simp only [if_true]; exact World.cell?_setCell_same _ _ _ (h j hj).1
  · simp only [if_neg e]; rw [World.cell?_setCell_other _ _ _ _ (fun h => e (by cases h; rfl))]; exact (h j hj).1
theorem Row.congr {W : World} {b n : Nat} {f g : Nat → Value} (h : Row W b n f) (e : ∀ o, o < n → f o = g o) : Row W b n g := fun o ho => by rw [← e o ho]; exact h o ho
theorem Row.own {β : Type} (b n : Nat) (f : β → Nat → Value) : Own (fun s W => Row W b n (f s)) := fun _ _ _ _ hs hg hr o ho => ⟨cell_kept (hs o ho).1 hg hr, (frozen_kept (hs o ho).1 hg hr).trans (hs o ho).2⟩
theorem Row.below {W W' : World} {b n B : Nat} {f : Nat → Value} (h : Row W b n f) (hb : Below B W W') (hB : b < B) : Row W' b n f := fun o ho => ⟨(hb.cell (p := ⟨b, o, none⟩) hB).trans (h o ho).1, (hb.frozen (p := ⟨b, o, none⟩) hB).trans (h o ho).2⟩
theorem Row.new (w : World) (cs : Array Value) (t : TypeId) (n : Nat) (f : Nat → Value) (h : ∀ o, o < n → cs[o]? = some (f o)) : Row (w.alloc (.cells cs t)) w.heap.size n f := fun o ho =>
  ⟨(World.cell?_alloc_new w cs t o).trans (h o ho), World.frozen?_alloc_new w cs t o⟩
theorem Row.drewN {W : World} {b n : Nat} {f : Nat → Value} (h : Row W b n f) (k : Nat) : Row (W.drewN k) b n f := h
theorem cell_new (w : World) (v : Value) (t : TypeId) : (w.alloc (.cells #[v] t)).cell? ⟨w.heap.size, 0, none⟩ = some v := World.cell?_alloc_new w #[v] t 0
theorem Below.drewN {B : Nat} {a w : World} (h : Below B a w) (n : Nat) : Below B a (w.drewN n) := ⟨h.os, h.tape, h.output, h.size, h.block⟩
theorem drewN_below {n : Nat} {w w' : World} (h : Below (w.drewN n).heap.size (w.drewN n) w') : Below w.heap.size w w' := ⟨h.os, h.tape, h.output, h.size, h.block⟩

/-! int's bits, of numbers that are not below 0. -/
theorem ofInt_i64 (a : Nat) (ha : a < 9223372036854775808) : (BitVec.ofInt 64 (a : Int)).toNat = a := by
  rw [BitVec.toNat_ofInt]; omega
theorem wrap64_nat (n : Nat) (h : n < 9223372036854775808) : wrap64 (n : Int) = (n : Int) := by unfold wrap64; omega
theorem i64_xor_nat (a b : Nat) (ha : a < 9223372036854775808) (hb : b < 9223372036854775808) : bits .xor .i64 (a : Int) (b : Int) = ((a ^^^ b : Nat) : Int) := by
  have hx : a ^^^ b < 2 ^ 63 := Nat.xor_lt_two_pow (by omega) (by omega)
  show IntKind.i64.wrap ((BitVec.ofInt 64 (a : Int) ^^^ BitVec.ofInt 64 (b : Int)).toNat : Int) = _
  rw [BitVec.toNat_xor, ofInt_i64 a ha, ofInt_i64 b hb, IntKind.wrap_i64]; omega
theorem i64_and_nat (a b : Nat) (ha : a < 9223372036854775808) (hb : b < 9223372036854775808) : bits .and .i64 (a : Int) (b : Int) = ((a &&& b : Nat) : Int) := by
  have hx : a &&& b < 2 ^ 63 := Nat.and_lt_two_pow _ (by omega)
  show IntKind.i64.wrap ((BitVec.ofInt 64 (a : Int) &&& BitVec.ofInt 64 (b : Int)).toNat : Int) = _
  rw [BitVec.toNat_and, ofInt_i64 a ha, ofInt_i64 b hb, IntKind.wrap_i64]; omega
/-- The test of bit k. -/
theorem i64_bit (a k : Nat) (ha : a < 9223372036854775808) : (bits .and .i64 ((a : Int) / 2 ^ k) 1 == 1) = a.testBit k := by
  have e : ((a : Int) / 2 ^ k) = ((a / 2 ^ k : Nat) : Int) := by simp
  have h1 : a / 2 ^ k < 9223372036854775808 := Nat.lt_of_le_of_lt (Nat.div_le_self _ _) ha
  rw [e, show (1 : Int) = ((1 : Nat) : Int) from rfl, i64_and_nat _ _ h1 (by omega), Nat.testBit_eq_decide_div_mod_eq, Nat.and_one_is_mod]
  generalize a / 2 ^ k % 2 = x
  cases hx : decide (x = 1)
  · rw [decide_eq_false_iff_not] at hx; rw [beq_eq_false_iff_ne]; omega
  · rw [decide_eq_true_eq] at hx; subst hx; rfl
end Gw
end
section
/- The field of 256 elements in plain numbers: the double, the powers of x + 1, their logarithms, the product by logarithms and bit by bit, inverses and powers; no program is named here. -/
namespace Gf

/-- x times a. -/
def dbl (a : Nat) : Nat := (a <<< 1) ^^^ (if a.testBit 7 then 283 else 0)
/-- (x + 1) times a. -/
def tri (a : Nat) : Nat := a ^^^ dbl a
/-- The powers of x + 1. -/
def pw : Nat → Nat
  | 0 => 1
  | n + 1 => tri (pw n)
/-- What the table of logarithms holds at a behind k rounds. -/
def lgTo : Nat → Nat → Nat
  | 0, _ => 0
  | k + 1, a => if a = pw k then k else lgTo k a
def lg (a : Nat) : Nat := lgTo 255 a

def lgL : List Nat := [0, 0, 25, 1, 50, 2, 26, 198, 75, 199, 27, 104, 51, 238, 223, 3, 100, 4, 224, 14, 52, 141, 129, 239, 76, 113, 8, 200, 248, 105, 28, 193, 125, 194, 29, 181, 249, 185, 39, 106, 77, 228, 166, 114, 154, 201, 9, 120, 101, 47, 138, 5, 33, 15, 225, 36, 18, 240, 130, 69, 53, 147, 218, 142, 150, 143, 219, 189, 54, 208, 206, 148, 19, 92, 210, 241, 64, 70, 131, 56, 102, 221, 253, 48, 191, 6, 139, 98, 179, 37, 226, 152, 34, 136, 145, 16, 126, 110, 72, 195, 163, 182, 30, 66, 58, 107, 40, 84, 250, 133, 61, 186, 43, 121, 10, 21, 155, 159, 94, 202, 78, 212, 172, 229, 243, 115, 167, 87, 175, 88, 168, 80, 244, 234, 214, 116, 79, 174, 233, 213, 231, 230, 173, 232, 44, 215, 117, 122, 235, 22, 11, 245, 89, 203, 95, 176, 156, 169, 81, 160, 127, 12, 246, 111, 23, 196, 73, 236, 216, 67, 31, 45, 164, 118, 123, 183, 204, 187, 62, 90, 251, 96, 177, 134, 59, 82, 161, 108, 170, 85, 41, 157, 151, 178, 135, 144, 97, 190, 220, 252, 188, 149, 207, 205, 55, 63, 91, 209, 83, 57, 132, 60, 65, 162, 109, 71, 20, 42, 158, 93, 86, 242, 211, 171, 68, 17, 146, 217, 35, 32, 46, 137, 180, 124, 184, 38, 119, 153, 227, 165, 103, 74, 237, 222, 197, 49, 254, 24, 13, 99, 140, 128, 192, 247, 112, 7]

set_option maxRecDepth 100000 in
theorem lgL_pw : ∀ i, i < 255 → lgL.getD (pw i) 0 = i := by decide +kernel
set_option maxRecDepth 100000 in
theorem pw_lgL : ∀ a, a < 256 → a ≠ 0 → pw (lgL.getD a 0) = a ∧ lgL.getD a 0 < 255 := by decide +kernel
theorem pw_255 : pw 255 = 1 := by decide +kernel

theorem dbl_lt_small : ∀ a, a < 256 → dbl a < 256 := by decide +kernel
theorem tri_lt_small : ∀ a, a < 256 → tri a < 256 := by decide +kernel
theorem tri_ne_small : ∀ a, a < 256 → a ≠ 0 → tri a ≠ 0 := by decide +kernel

theorem pw_lt (n : Nat) : pw n < 256 := by
  induction n with
  | zero => decide
  | succ n ih => exact tri_lt_small _ ih
theorem pw_ne (n : Nat) : pw n ≠ 0 := by
  induction n with
  | zero => decide
  | succ n ih => exact tri_ne_small _ (pw_lt n) ih
theorem pw_inj {i j : Nat} (hi : i < 255) (hj : j < 255) (h : pw i = pw j) : i = j := by
  have a := lgL_pw i hi; have b := lgL_pw j hj; rw [h] at a; omega
theorem pw_add255 (n : Nat) : pw (n + 255) = pw n := by
  induction n with
  | zero => rw [Nat.zero_add, pw_255]; rfl
  | succ n ih =>
    have : n + 1 + 255 = (n + 255) + 1 := by omega
    rw [this]; show tri (pw (n + 255)) = tri (pw n); rw [ih]
theorem pw_mul255 (n k : Nat) : pw (n + 255 * k) = pw n := by
  induction k with
  | zero => rfl
  | succ k ih => rw [Nat.mul_succ, ← Nat.add_assoc, pw_add255, ih]
theorem pw_mod (n : Nat) : pw (n % 255) = pw n := by
  have := pw_mul255 (n % 255) (n / 255)
  rw [Nat.mod_add_div] at this; exact this.symm
theorem pw_congr {m n : Nat} (h : m % 255 = n % 255) : pw m = pw n := by
  rw [← pw_mod m, ← pw_mod n, h]

theorem lgTo_pw {k i : Nat} (hk : k ≤ 255) (hi : i < k) : lgTo k (pw i) = i := by
  induction k with
  | zero => omega
  | succ k ih =>
    unfold lgTo
    by_cases h : pw i = pw k
    · rw [if_pos h]; exact (pw_inj (by omega) (by omega) h).symm
    · rw [if_neg h]
      have e : i ≠ k := fun e => h (by rw [e])
      exact ih (by omega) (by omega)
theorem lg_pw {i : Nat} (hi : i < 255) : lg (pw i) = i := lgTo_pw (Nat.le_refl _) hi
theorem lg_eq {a : Nat} (h : a < 256) (h0 : a ≠ 0) : lg a = lgL.getD a 0 := by
  have := pw_lgL a h h0
  calc lg a = lg (pw (lgL.getD a 0)) := by rw [this.1]
    _ = lgL.getD a 0 := lg_pw this.2
theorem pw_lg {a : Nat} (h : a < 256) (h0 : a ≠ 0) : pw (lg a) = a := by rw [lg_eq h h0]; exact (pw_lgL a h h0).1
theorem lg_lt {a : Nat} (h : a < 256) (h0 : a ≠ 0) : lg a < 255 := by rw [lg_eq h h0]; exact (pw_lgL a h h0).2
theorem lgTo_lt (k a : Nat) (hk : k ≤ 255) : lgTo k a < 255 := by
  induction k with
  | zero => simp [lgTo]
  | succ k ih =>
    unfold lgTo; split
    · omega
    · exact ih (by omega)
theorem lg_lt' (a : Nat) : lg a < 255 := lgTo_lt 255 a (Nat.le_refl _)
theorem lg_one : lg 1 = 0 := lg_pw (i := 0) (by omega)
theorem lg_mod (n : Nat) : lg (pw n) = n % 255 := by rw [← pw_mod n]; exact lg_pw (Nat.mod_lt _ (by omega))

/-- The product, by logarithms. -/
def gm (a b : Nat) : Nat := if a = 0 ∨ b = 0 then 0 else pw ((lg a + lg b) % 255)

theorem gm_zero_left (b : Nat) : gm 0 b = 0 := by simp [gm]
theorem gm_zero_right (a : Nat) : gm a 0 = 0 := by simp [gm]
theorem gm_lt (a b : Nat) : gm a b < 256 := by
  unfold gm; split
  · omega
  · exact pw_lt _
theorem gm_pw (i j : Nat) : gm (pw i) (pw j) = pw (i + j) := by
  unfold gm; rw [if_neg (by simp [pw_ne]), lg_mod, lg_mod]; exact pw_congr (by omega)
theorem gm_ne {a b : Nat} (ha : a ≠ 0) (hb : b ≠ 0) : gm a b ≠ 0 := by
  unfold gm; rw [if_neg (by simp [ha, hb])]; exact pw_ne _
theorem gm_eq_zero {a b : Nat} : gm a b = 0 ↔ a = 0 ∨ b = 0 := by
  constructor
  · intro h; by_cases ha : a = 0
    · exact .inl ha
    · by_cases hb : b = 0
      · exact .inr hb
      · exact absurd h (gm_ne ha hb)
  · rintro (h | h) <;> subst h <;> simp [gm]
theorem gm_comm (a b : Nat) : gm a b = gm b a := by
  unfold gm
  by_cases ha : a = 0
  · simp [ha]
  · by_cases hb : b = 0
    · simp [hb]
    · simp [ha, hb, Nat.add_comm]
theorem ex_pw {a : Nat} (h : a < 256) (h0 : a ≠ 0) : ∃ i, i < 255 ∧ a = pw i := ⟨lg a, lg_lt h h0, (pw_lg h h0).symm⟩
theorem gm_assoc {a b c : Nat} (ha : a < 256) (hb : b < 256) (hc : c < 256) : gm (gm a b) c = gm a (gm b c) := by
  by_cases a0 : a = 0
  · subst a0; simp [gm]
  by_cases b0 : b = 0
  · subst b0; simp [gm]
  by_cases c0 : c = 0
  · subst c0; simp [gm]
  obtain ⟨i, _, rfl⟩ := ex_pw ha a0
  obtain ⟨j, _, rfl⟩ := ex_pw hb b0
  obtain ⟨k, _, rfl⟩ := ex_pw hc c0
  simp only [gm_pw, Nat.add_assoc]
theorem gm_one {a : Nat} (h : a < 256) : gm a 1 = a := by
  by_cases a0 : a = 0
  · subst a0; simp [gm]
  obtain ⟨i, _, rfl⟩ := ex_pw h a0
  exact gm_pw i 0
theorem gm_one_left {a : Nat} (h : a < 256) : gm 1 a = a := by rw [gm_comm]; exact gm_one h

/-! The product bit by bit. -/
theorem shl_xor (a b i : Nat) : (a ^^^ b) <<< i = (a <<< i) ^^^ (b <<< i) := Nat.shiftLeft_xor_distrib
theorem xor4 (a b c d : Nat) : (a ^^^ b) ^^^ (c ^^^ d) = (a ^^^ c) ^^^ (b ^^^ d) := by
  rw [Nat.xor_assoc, ← Nat.xor_assoc b c d, Nat.xor_comm b c, Nat.xor_assoc c b d, ← Nat.xor_assoc]
theorem dbl_xor (a b : Nat) : dbl (a ^^^ b) = dbl a ^^^ dbl b := by
  unfold dbl; rw [shl_xor, Nat.testBit_xor]
  rw [xor4]
  cases a.testBit 7 <;> cases b.testBit 7 <;> simp
def dblN : Nat → Nat → Nat
  | 0, a => a
  | k + 1, a => dbl (dblN k a)
theorem dblN_xor (k a b : Nat) : dblN k (a ^^^ b) = dblN k a ^^^ dblN k b := by
  induction k with
  | zero => rfl
  | succ k ih => simp only [dblN, ih, dbl_xor]
theorem dblN_dbl (k a : Nat) : dblN k (dbl a) = dbl (dblN k a) := by
  induction k with
  | zero => rfl
  | succ k ih => simp only [dblN, ih]
theorem dbl_zero : dbl 0 = 0 := by decide
/-- The sum of x^i a over the bits i of b below k. -/
def bmTo (a b : Nat) : Nat → Nat
  | 0 => 0
  | k + 1 => bmTo a b k ^^^ (if b.testBit k then dblN k a else 0)
def bm (a b : Nat) : Nat := bmTo a b 8
theorem bmTo_xor_right (a b c k : Nat) : bmTo a (b ^^^ c) k = bmTo a b k ^^^ bmTo a c k := by
  induction k with
  | zero => simp [bmTo]
  | succ k ih =>
    simp only [bmTo, ih, Nat.testBit_xor]
    rw [xor4]
    cases b.testBit k <;> cases c.testBit k <;> simp
theorem bmTo_xor_left (a b c k : Nat) : bmTo (a ^^^ b) c k = bmTo a c k ^^^ bmTo b c k := by
  induction k with
  | zero => simp [bmTo]
  | succ k ih =>
    simp only [bmTo, ih, dblN_xor]
    rw [xor4]
    cases c.testBit k <;> simp
theorem bmTo_dbl (a b k : Nat) : bmTo (dbl a) b k = dbl (bmTo a b k) := by
  induction k with
  | zero => simp [bmTo, dbl_zero]
  | succ k ih =>
    simp only [bmTo, ih, dblN_dbl, dbl_xor]
    cases b.testBit k <;> simp [dbl_zero]
theorem bm_tri (a b : Nat) : bm (tri a) b = tri (bm a b) := by
  unfold bm tri; rw [bmTo_xor_left, bmTo_dbl]
theorem bm_one_left : ∀ b, b < 256 → bm 1 b = b := by decide +kernel
theorem bm_pw (i j : Nat) : bm (pw i) (pw j) = pw (i + j) := by
  induction i with
  | zero => rw [Nat.zero_add]; exact bm_one_left _ (pw_lt j)
  | succ i ih => rw [show i + 1 + j = (i + j) + 1 from by omega]; show bm (tri (pw i)) (pw j) = tri (pw (i + j)); rw [bm_tri, ih]
theorem bmTo_zero_right (a k : Nat) : bmTo a 0 k = 0 := by
  induction k with
  | zero => rfl
  | succ k ih => simp [bmTo, ih]
theorem dblN_zero (k : Nat) : dblN k 0 = 0 := by
  induction k with
  | zero => rfl
  | succ k ih => simp [dblN, ih, dbl_zero]
theorem bmTo_zero_left (b k : Nat) : bmTo 0 b k = 0 := by
  induction k with
  | zero => rfl
  | succ k ih => simp [bmTo, ih, dblN_zero]
theorem gm_eq_bm {a b : Nat} (ha : a < 256) (hb : b < 256) : gm a b = bm a b := by
  by_cases a0 : a = 0
  · subst a0; rw [gm_zero_left]; exact (bmTo_zero_left b 8).symm
  by_cases b0 : b = 0
  · subst b0; rw [gm_zero_right]; exact (bmTo_zero_right a 8).symm
  obtain ⟨i, _, rfl⟩ := ex_pw ha a0
  obtain ⟨j, _, rfl⟩ := ex_pw hb b0
  rw [gm_pw, bm_pw]
theorem xor_lt {a b : Nat} (ha : a < 256) (hb : b < 256) : a ^^^ b < 256 := Nat.xor_lt_two_pow (n := 8) ha hb
theorem gm_xor_right {a b c : Nat} (ha : a < 256) (hb : b < 256) (hc : c < 256) : gm a (b ^^^ c) = gm a b ^^^ gm a c := by
  rw [gm_eq_bm ha (xor_lt hb hc), gm_eq_bm ha hb, gm_eq_bm ha hc]; exact bmTo_xor_right a b c 8
theorem gm_xor_left {a b c : Nat} (ha : a < 256) (hb : b < 256) (hc : c < 256) : gm (a ^^^ b) c = gm a c ^^^ gm b c := by
  rw [gm_comm, gm_xor_right hc ha hb, gm_comm c a, gm_comm c b]

/-! The product as the definition has it: all bits first, then what is too great is taken off. -/
def clTo (a b : Nat) : Nat → Nat
  | 0 => 0
  | k + 1 => if b.testBit k then clTo a b k ^^^ (a <<< k) else clTo a b k
def redTo (p : Nat) : Nat → Nat
  | 0 => p
  | j + 1 => if (redTo p j).testBit (14 - j) then redTo p j ^^^ (283 <<< (6 - j)) else redTo p j
theorem redTo_xor (p q j : Nat) : redTo (p ^^^ q) j = redTo p j ^^^ redTo q j := by
  induction j with
  | zero => rfl
  | succ j ih =>
    simp only [redTo, ih, Nat.testBit_xor]
    generalize redTo p j = x
    generalize redTo q j = y
    cases x.testBit (14 - j) <;> cases y.testBit (14 - j) <;> simp
    · rw [Nat.xor_assoc]
    · rw [Nat.xor_assoc, Nat.xor_comm y, ← Nat.xor_assoc]
    · rw [xor4]; simp
theorem redTo_zero : ∀ j, j < 8 → redTo 0 j = 0 := by decide +kernel
theorem red_shl : ∀ k, k < 8 → ∀ a, a < 256 → redTo (a <<< k) 7 = dblN k a := by decide +kernel
theorem red_clTo {a b : Nat} (ha : a < 256) (k : Nat) (hk : k ≤ 8) : redTo (clTo a b k) 7 = bmTo a b k := by
  induction k with
  | zero => exact redTo_zero 7 (by omega)
  | succ k ih =>
    simp only [clTo, bmTo]
    cases b.testBit k
    · simpa using ih (by omega)
    · simp only [if_true]; rw [redTo_xor, ih (by omega), red_shl k (by omega) a ha]
theorem ref_mul {a b : Nat} (ha : a < 256) (hb : b < 256) : redTo (clTo a b 8) 7 = gm a b := by
  rw [gm_eq_bm ha hb]; exact red_clTo ha 8 (Nat.le_refl _)
theorem clTo_lt {a : Nat} (ha : a < 256) (b k : Nat) (hk : k ≤ 8) : clTo a b k < 32768 := by
  induction k with
  | zero => simp [clTo]
  | succ k ih =>
    have h1 : a <<< k < 2 ^ 15 := by
      rw [Nat.shiftLeft_eq]
      calc a * 2 ^ k < 256 * 2 ^ k := Nat.mul_lt_mul_of_pos_right ha (Nat.two_pow_pos k)
        _ ≤ 256 * 2 ^ 7 := Nat.mul_le_mul_left _ (Nat.pow_le_pow_right (by omega) (by omega))
        _ = 2 ^ 15 := by decide
    unfold clTo; split
    · exact Nat.xor_lt_two_pow (n := 15) (ih (by omega)) h1
    · exact ih (by omega)
theorem redTo_lt {p : Nat} (hp : p < 32768) (j : Nat) (hj : j ≤ 7) : redTo p j < 32768 := by
  induction j with
  | zero => exact hp
  | succ j ih =>
    have h1 : 283 <<< (6 - j) < 2 ^ 15 := by
      rw [Nat.shiftLeft_eq]
      calc 283 * 2 ^ (6 - j) ≤ 283 * 2 ^ 6 := Nat.mul_le_mul_left _ (Nat.pow_le_pow_right (by omega) (by omega))
        _ < 2 ^ 15 := by decide
    unfold redTo; split
    · exact Nat.xor_lt_two_pow (n := 15) (ih (by omega)) h1
    · exact ih (by omega)

/-! Inverses, quotients, powers. -/
def inv (a : Nat) : Nat := if a = 0 then 0 else pw ((255 - lg a) % 255)
theorem inv_lt (a : Nat) : inv a < 256 := by
  unfold inv; split
  · omega
  · exact pw_lt _
theorem inv_ne {a : Nat} (h : a ≠ 0) : inv a ≠ 0 := by unfold inv; rw [if_neg h]; exact pw_ne _
theorem gm_inv {a : Nat} (h : a < 256) (h0 : a ≠ 0) : gm a (inv a) = 1 := by
  obtain ⟨i, hi, rfl⟩ := ex_pw h h0
  unfold inv; rw [if_neg h0, lg_pw hi, gm_pw]
  exact pw_congr (n := 0) (by omega)
theorem inv_unique {a b : Nat} (ha : a < 256) (hb : b < 256) (h : gm a b = 1) : b = inv a := by
  have a0 : a ≠ 0 := by rintro rfl; simp [gm] at h
  calc b = gm 1 b := (gm_one_left hb).symm
    _ = gm (gm (inv a) a) b := by rw [gm_comm (inv a), gm_inv ha a0]
    _ = gm (inv a) (gm a b) := gm_assoc (inv_lt a) ha hb
    _ = inv a := by rw [h, gm_one (inv_lt a)]
def dv (a b : Nat) : Nat := gm a (inv b)
theorem dv_eq {a b : Nat} (ha : a ≠ 0) (hb : b ≠ 0) : dv a b = pw ((lg a + 255 - lg b) % 255) := by
  unfold dv gm; rw [if_neg (by simp [ha, inv_ne hb])]
  unfold inv; rw [if_neg hb, lg_mod]
  have := lg_lt' b
  exact pw_congr (by omega)
theorem gm_cancel {a b c : Nat} (ha : a < 256) (hb : b < 256) (hc : c < 256) (c0 : c ≠ 0) (h : gm a c = gm b c) : a = b := by
  have e : ∀ x, x < 256 → gm (gm x c) (inv c) = x := fun x hx => by rw [gm_assoc hx hc (inv_lt c), gm_inv hc c0, gm_one hx]
  rw [← e a ha, ← e b hb, h]
theorem dv_gm {a c : Nat} (ha : a < 256) (hc : c < 256) (c0 : c ≠ 0) : dv (gm a c) c = a := by
  unfold dv; rw [gm_assoc ha hc (inv_lt c), gm_inv hc c0, gm_one ha]
theorem gm_dv {a b : Nat} (ha : a < 256) (hb : b < 256) (b0 : b ≠ 0) : gm (dv a b) b = a := by
  unfold dv; rw [gm_assoc ha (inv_lt b) hb, gm_comm (inv b), gm_inv hb b0, gm_one ha]

def gp (a : Nat) : Nat → Nat
  | 0 => 1
  | n + 1 => gm (gp a n) a
theorem gp_lt (a n : Nat) : gp a n < 256 := by
  cases n with
  | zero => exact (by decide : 1 < 256)
  | succ n => exact gm_lt _ _
theorem gp_pw (i n : Nat) : gp (pw i) n = pw (i * n) := by
  induction n with
  | zero => rfl
  | succ n ih => simp only [gp, ih, gm_pw, Nat.mul_succ]
theorem gp_zero {n : Nat} (h : n ≠ 0) : gp 0 n = 0 := by
  cases n with
  | zero => exact absurd rfl h
  | succ n => simp [gp, gm]
theorem gp_add {a : Nat} (ha : a < 256) (m n : Nat) : gp a (m + n) = gm (gp a m) (gp a n) := by
  induction n with
  | zero => simp [gp, gm_one (gp_lt a m)]
  | succ n ih => rw [← Nat.add_assoc]; simp only [gp, ih]; rw [gm_assoc (gp_lt _ _) (gp_lt _ _) ha]
theorem gp_two_mul {a : Nat} (ha : a < 256) (n : Nat) : gp (gm a a) n = gp a (2 * n) := by
  induction n with
  | zero => rfl
  | succ n ih =>
    have : gp a (2 * (n + 1)) = gm (gp a (2 * n)) (gm a a) := by
      rw [Nat.mul_succ, gp_add ha]; congr 1; simp [gp, gm_one_left ha]
    rw [this]; simp only [gp, ih]
/-- A power whose exponent may be below 0; of 0 then 0. -/
def gpz (a : Nat) (n : Int) : Nat := if n = 0 then 1 else if a = 0 then 0 else pw (lg a * (n % 255).toNat % 255)
theorem gpz_lt (a : Nat) (n : Int) : gpz a n < 256 := by
  unfold gpz; split
  · omega
  · split
    · omega
    · exact pw_lt _
theorem mul_mod255 (a b : Nat) : a * (b % 255) % 255 = a * b % 255 := by rw [Nat.mul_mod, Nat.mod_mod, ← Nat.mul_mod]
theorem gpz_nat {a : Nat} (ha : a < 256) (n : Nat) : gpz a (n : Int) = gp a n := by
  unfold gpz
  by_cases h : n = 0
  · subst h; rfl
  rw [if_neg (by omega)]
  by_cases a0 : a = 0
  · rw [if_pos a0, a0, gp_zero h]
  rw [if_neg a0, show ((n : Int) % 255).toNat = n % 255 from by omega, mul_mod255, pw_mod, ← gp_pw, pw_lg ha a0]
theorem gpz_add {a : Nat} (_ha : a < 256) (a0 : a ≠ 0) (m n : Int) : gm (gpz a m) (gpz a n) = gpz a (m + n) := by
  have e : ∀ k : Int, gpz a k = pw (lg a * (k % 255).toNat) := fun k => by
    unfold gpz
    by_cases h : k = 0
    · subst h; simp [pw]
    · rw [if_neg h, if_neg a0, pw_mod]
  rw [e, e, e, gm_pw, ← Nat.mul_add]
  have : (m % 255).toNat + (n % 255).toNat = ((m + n) % 255).toNat + 255 * (((m % 255).toNat + (n % 255).toNat) / 255) := by omega
  rw [this, Nat.mul_add, Nat.mul_left_comm, pw_mul255]
theorem gpz_neg {a : Nat} (a0 : a ≠ 0) (n : Int) (hn : n < 0) : gpz a n = gp (inv a) (255 - (n.tmod 255)).toNat := by
  have e : n.tmod 255 = -((-n) % 255) := by
    have : n.tmod 255 = -((-n).tmod 255) := by rw [Int.neg_tmod]; simp
    rw [this, Int.tmod_eq_emod_of_nonneg (by omega)]
  unfold gpz inv
  rw [if_neg (by omega), if_neg a0, if_neg a0, gp_pw]
  have hl := lg_lt' a
  generalize hk : (-n) % 255 = k at e
  have hk0 : 0 ≤ k := by omega
  have hk1 : k < 255 := by omega
  obtain ⟨j, rfl⟩ := Int.eq_ofNat_of_zero_le hk0
  have e1 : (255 - n.tmod 255).toNat = 255 + j := by rw [e]; omega
  have e2 : (n % 255).toNat = (255 - j) % 255 := by omega
  rw [e1, e2, mul_mod255]
  generalize lg a = l at hl
  refine pw_congr ?_
  rw [Nat.mod_mod]
  have h2 : (255 - l) % 255 * (255 + j) % 255 = (255 - l) * j % 255 := by
    rw [Nat.mul_mod, Nat.mod_mod, ← Nat.mul_mod, Nat.mul_add, Nat.add_comm, Nat.add_mul_mod_self_right]
  rw [h2]
  have hj : j ≤ 255 := by omega
  have h3 : l * (255 - j) + l * j = 255 * l := by rw [← Nat.mul_add, show 255 - j + j = 255 from by omega, Nat.mul_comm]
  have h4 : (255 - l) * j + l * j = 255 * j := by rw [← Nat.add_mul, show 255 - l + l = 255 from by omega]
  generalize l * (255 - j) = x at h3 ⊢
  generalize (255 - l) * j = y at h4 ⊢
  generalize l * j = z at h3 h4
  omega
end Gf
end
section
/- Polynomials over the field of 256 elements as lists of numbers: values, sums, products, roots, the one polynomial through points; no program is named here. -/
namespace Pol
open Gf

/-- All are bytes. -/
def BB (p : List Nat) : Prop := ∀ x ∈ p, x < 256
theorem BB.nil : BB [] := fun _ h => by cases h
theorem BB.cons {a : Nat} {p : List Nat} (ha : a < 256) (h : BB p) : BB (a :: p) := fun x hx => by
  cases hx with
  | head => exact ha
  | tail _ hx => exact h x hx
theorem BB.head {a : Nat} {p : List Nat} (h : BB (a :: p)) : a < 256 := h a (by simp)
theorem BB.tail {a : Nat} {p : List Nat} (h : BB (a :: p)) : BB p := fun x hx => h x (by simp [hx])
theorem BB.append {p q : List Nat} (h : BB p) (k : BB q) : BB (p ++ q) := fun x hx => (List.mem_append.1 hx).elim (h x) (k x)
theorem BB.take {p : List Nat} (h : BB p) (n : Nat) : BB (p.take n) := fun x hx => h x (List.mem_of_mem_take hx)
theorem BB.drop {p : List Nat} (h : BB p) (n : Nat) : BB (p.drop n) := fun x hx => h x (List.mem_of_mem_drop hx)
theorem BB.get {p : List Nat} (h : BB p) {i : Nat} (hi : i < p.length) : p[i] < 256 := h _ (List.getElem_mem hi)

/-- The coefficient of x to the power i. -/
def co (p : List Nat) (i : Nat) : Nat := p.getD i 0
theorem co_nil (i : Nat) : co [] i = 0 := by simp [co]
theorem co_zero (a : Nat) (p : List Nat) : co (a :: p) 0 = a := by simp [co]
theorem co_succ (a : Nat) (p : List Nat) (i : Nat) : co (a :: p) (i + 1) = co p i := by simp [co]
theorem co_get {p : List Nat} {i : Nat} (hi : i < p.length) : co p i = p[i] := by simp [co, hi]
theorem co_far {p : List Nat} {i : Nat} (hi : p.length ≤ i) : co p i = 0 := by simp [co, hi]
theorem BB.co {p : List Nat} (h : BB p) (i : Nat) : co p i < 256 := by
  by_cases hi : i < p.length
  · rw [co_get hi]; exact h.get hi
  · rw [co_far (by omega)]; omega
theorem co_drop (p : List Nat) (n i : Nat) : co (p.drop n) i = co p (n + i) := by simp [co, List.getElem?_drop]
theorem co_append_left {p q : List Nat} {i : Nat} (h : i < p.length) : co (p ++ q) i = co p i := by simp [co, List.getElem?_append_left h]
theorem co_append_right {p q : List Nat} {i : Nat} (h : p.length ≤ i) : co (p ++ q) i = co q (i - p.length) := by simp [co, List.getElem?_append_right h]
theorem co_take {p : List Nat} {n i : Nat} (h : i < n) : co (p.take n) i = co p i := by simp [co, h]
theorem co_take_far {p : List Nat} {n i : Nat} (h : n ≤ i) : co (p.take n) i = 0 := by simp [co, List.getElem?_take, Nat.not_lt.2 h]

/-- Without noughts at the end. -/
def tr : List Nat → List Nat
  | [] => []
  | a :: p => if tr p = [] ∧ a = 0 then [] else a :: tr p
theorem co_tr (p : List Nat) (i : Nat) : co (tr p) i = co p i := by
  induction p generalizing i with
  | nil => rfl
  | cons a p ih =>
    unfold tr
    by_cases h : tr p = [] ∧ a = 0
    · rw [if_pos h, co_nil]
      cases i with
      | zero => rw [co_zero, h.2]
      | succ i => rw [co_succ, ← ih i, h.1, co_nil]
    · rw [if_neg h]
      cases i with
      | zero => rw [co_zero, co_zero]
      | succ i => rw [co_succ, co_succ, ih]
theorem tr_len (p : List Nat) : (tr p).length ≤ p.length := by
  induction p with
  | nil => exact Nat.le_refl _
  | cons a p ih =>
    unfold tr
    by_cases h : tr p = [] ∧ a = 0
    · rw [if_pos h]; simp
    · rw [if_neg h]; simp; exact ih
theorem tr_nil_iff (p : List Nat) : tr p = [] ↔ ∀ i, co p i = 0 := by
  constructor
  · intro h i; rw [← co_tr, h, co_nil]
  · intro h
    induction p with
    | nil => rfl
    | cons a p ih =>
      have h0 := h 0
      rw [co_zero] at h0
      have h1 := ih (fun i => by have := h (i + 1); rwa [co_succ] at this)
      unfold tr; rw [if_pos ⟨h1, h0⟩]
theorem tr_ext {p q : List Nat} (h : ∀ i, co p i = co q i) : tr p = tr q := by
  induction p generalizing q with
  | nil => symm; exact (tr_nil_iff q).2 (fun i => by rw [← h i, co_nil])
  | cons a p ih =>
    cases q with
    | nil => exact (tr_nil_iff _).2 (fun i => by rw [h i, co_nil])
    | cons b q =>
      have h0 := h 0
      rw [co_zero, co_zero] at h0
      have h1 := ih (q := q) (fun i => by have := h (i + 1); rwa [co_succ, co_succ] at this)
      unfold tr; rw [h1, h0]
theorem tr_tr (p : List Nat) : tr (tr p) = tr p := tr_ext (co_tr p)
theorem tr_bb {p : List Nat} (h : BB p) : BB (tr p) := by
  induction p with
  | nil => exact h
  | cons a p ih =>
    unfold tr
    by_cases e : tr p = [] ∧ a = 0
    · rw [if_pos e]; exact BB.nil
    · rw [if_neg e]; exact BB.cons h.head (ih h.tail)
/-- What is cut behind the last byte that is not 0. -/
theorem tr_take (p : List Nat) (n : Nat) (hn : n ≤ p.length) (hz : ∀ i, n ≤ i → co p i = 0) (hl : n = 0 ∨ co p (n - 1) ≠ 0) : tr p = p.take n := by
  induction p generalizing n with
  | nil => simp at hn; subst hn; rfl
  | cons a p ih =>
    cases n with
    | zero => exact (tr_nil_iff _).2 (fun i => hz i (Nat.zero_le _))
    | succ n =>
      have hz' : ∀ i, n ≤ i → co p i = 0 := fun i hi => by have := hz (i + 1) (by omega); rwa [co_succ] at this
      have hn' : n ≤ p.length := by simpa using hn
      rw [List.take_succ_cons]
      cases n with
      | zero =>
        have ha : a ≠ 0 := by rcases hl with h | h; · omega
                              · simpa [co_zero] using h
        have e : tr p = [] := (tr_nil_iff p).2 (fun i => hz' i (Nat.zero_le _))
        unfold tr; rw [if_neg (by simp [ha]), e]; rfl
      | succ n =>
        have hl' : n + 1 = 0 ∨ co p (n + 1 - 1) ≠ 0 := .inr (by rcases hl with h | h; · omega
                                                                · simpa [co_succ] using h)
        have e := ih (n + 1) hn' hz' hl'
        have ne : tr p ≠ [] := fun h0 => by
          have := (tr_nil_iff p).1 h0 n
          rcases hl' with h | h; · omega
          · simp at h; exact h this
        unfold tr; rw [if_neg (by simp [ne]), e]
theorem tr_last {p : List Nat} (h : tr p ≠ []) : co p ((tr p).length - 1) ≠ 0 := by
  induction p with
  | nil => exact absurd rfl h
  | cons a p ih =>
    unfold tr at h ⊢
    by_cases e : tr p = [] ∧ a = 0
    · rw [if_pos e] at h; exact absurd rfl h
    · rw [if_neg e]
      by_cases e2 : tr p = []
      · have : a ≠ 0 := fun h0 => e ⟨e2, h0⟩
        simp [e2, co_zero, this]
      · have h2 := ih e2
        have h3 : 0 < (tr p).length := List.length_pos_iff.2 e2
        rw [List.length_cons, show (tr p).length + 1 - 1 = ((tr p).length - 1) + 1 from by omega, co_succ]
        exact h2
theorem co_trlen {p : List Nat} {i : Nat} (h : (tr p).length ≤ i) : co p i = 0 := by rw [← co_tr]; exact co_far h

/-- The value. -/
def ev (x : Nat) : List Nat → Nat
  | [] => 0
  | a :: p => a ^^^ gm x (ev x p)
theorem ev_lt {p : List Nat} (h : BB p) (x : Nat) : ev x p < 256 := by
  cases p with
  | nil => simp [ev]
  | cons a p => exact xor_lt h.head (gm_lt _ _)
theorem ev_zero {p : List Nat} (x : Nat) (h : ∀ i, co p i = 0) : ev x p = 0 := by
  induction p with
  | nil => rfl
  | cons a p ih =>
    have h0 := h 0
    rw [co_zero] at h0
    have h1 := ih (fun i => by have := h (i + 1); rwa [co_succ] at this)
    simp [ev, h0, h1, gm_zero_right]
theorem ev_tr (x : Nat) (p : List Nat) : ev x (tr p) = ev x p := by
  induction p with
  | nil => rfl
  | cons a p ih =>
    unfold tr
    by_cases h : tr p = [] ∧ a = 0
    · rw [if_pos h]
      have h1 : ev x p = 0 := by rw [← ih, h.1]; rfl
      simp [ev, h.2, h1, gm_zero_right]
    · rw [if_neg h]; simp only [ev, ih]
theorem ev_ext {p q : List Nat} (x : Nat) (h : ∀ i, co p i = co q i) : ev x p = ev x q := by rw [← ev_tr, ← ev_tr x q, tr_ext h]

/-- The sum. -/
def add : List Nat → List Nat → List Nat
  | [], q => q
  | p, [] => p
  | a :: p, b :: q => (a ^^^ b) :: add p q
theorem add_nil (p : List Nat) : add p [] = p := by cases p <;> rfl
theorem nil_add (p : List Nat) : add [] p = p := by cases p <;> rfl
theorem co_add (p q : List Nat) (i : Nat) : co (add p q) i = co p i ^^^ co q i := by
  induction p generalizing q i with
  | nil => rw [nil_add, co_nil, Nat.zero_xor]
  | cons a p ih =>
    cases q with
    | nil => rw [add_nil, co_nil, Nat.xor_zero]
    | cons b q =>
      cases i with
      | zero => simp only [add, co_zero]
      | succ i => simp only [add, co_succ, ih]
theorem add_bb {p q : List Nat} (h : BB p) (k : BB q) : BB (add p q) := by
  induction p generalizing q with
  | nil => rw [nil_add]; exact k
  | cons a p ih =>
    cases q with
    | nil => rw [add_nil]; exact h
    | cons b q => exact BB.cons (xor_lt h.head k.head) (ih h.tail k.tail)
theorem add_len (p q : List Nat) : (add p q).length = max p.length q.length := by
  induction p generalizing q with
  | nil => rw [nil_add]; simp
  | cons a p ih =>
    cases q with
    | nil => rw [add_nil]; simp
    | cons b q => simp only [add, List.length_cons, ih]; omega
theorem xor_move (a b c d : Nat) : (a ^^^ b) ^^^ (c ^^^ d) = (a ^^^ c) ^^^ (b ^^^ d) := xor4 a b c d
theorem ev_add {p q : List Nat} (hp : BB p) (hq : BB q) {x : Nat} (hx : x < 256) : ev x (add p q) = ev x p ^^^ ev x q := by
  induction p generalizing q with
  | nil => rw [nil_add]; simp [ev]
  | cons a p ih =>
    cases q with
    | nil => rw [add_nil]; simp [ev]
    | cons b q =>
      simp only [add, ev, ih hp.tail hq.tail]
      rw [gm_xor_right hx (ev_lt hp.tail x) (ev_lt hq.tail x), xor4]

/-- Times a byte. -/
def sm (c : Nat) (p : List Nat) : List Nat := p.map (gm c)
theorem co_sm (c : Nat) (p : List Nat) (i : Nat) : co (sm c p) i = gm c (co p i) := by
  unfold co sm
  by_cases h : i < p.length
  · simp [h]
  · simp [Nat.not_lt.1 h, gm_zero_right]
theorem sm_bb (c : Nat) (p : List Nat) : BB (sm c p) := fun x hx => by
  obtain ⟨y, _, rfl⟩ := List.mem_map.1 hx; exact gm_lt _ _
theorem sm_len (c : Nat) (p : List Nat) : (sm c p).length = p.length := by simp [sm]
theorem ev_sm {c x : Nat} {p : List Nat} (hc : c < 256) (hx : x < 256) (hp : BB p) : ev x (sm c p) = gm c (ev x p) := by
  induction p with
  | nil => simp [sm, ev, gm_zero_right]
  | cons a p ih =>
    show gm c a ^^^ gm x (ev x (sm c p)) = gm c (a ^^^ gm x (ev x p))
    rw [ih hp.tail, gm_xor_right hc hp.head (gm_lt _ _), ← gm_assoc hx hc (ev_lt hp.tail x), gm_comm x c, gm_assoc hc hx (ev_lt hp.tail x)]

/-- The product. -/
def mul : List Nat → List Nat → List Nat
  | [], _ => []
  | a :: p, q => add (sm a q) (0 :: mul p q)
theorem mul_bb (p q : List Nat) : BB (mul p q) := by
  induction p with
  | nil => exact BB.nil
  | cons a p ih => exact add_bb (sm_bb a q) (BB.cons (by omega) ih)
theorem ev_mul {p q : List Nat} (hp : BB p) (hq : BB q) {x : Nat} (hx : x < 256) : ev x (mul p q) = gm (ev x p) (ev x q) := by
  induction p with
  | nil => simp [mul, ev, gm_zero_left]
  | cons a p ih =>
    unfold mul
    rw [ev_add (sm_bb a q) (BB.cons (by omega) (mul_bb p q)) hx, ev_sm hp.head hx hq]
    show gm a (ev x q) ^^^ (0 ^^^ gm x (ev x (mul p q))) = gm (a ^^^ gm x (ev x p)) (ev x q)
    rw [ih hp.tail, Nat.zero_xor, gm_xor_left hp.head (gm_lt _ _) (ev_lt hq x), gm_assoc hx (ev_lt hp.tail x) (ev_lt hq x)]
theorem co_mul_nil (p : List Nat) (i : Nat) : co (mul p []) i = 0 := by
  induction p generalizing i with
  | nil => rfl
  | cons a p ih =>
    unfold mul; rw [co_add]
    cases i with
    | zero => simp [sm, co]
    | succ i => rw [co_succ, ih]; simp [sm, co]
/-- One more power of the left side. -/
theorem co_mul_snoc (p : List Nat) (a : Nat) (q : List Nat) (k : Nat) : co (mul (p ++ [a]) q) k = co (mul p q) k ^^^ (if p.length ≤ k then gm a (co q (k - p.length)) else 0) := by
  induction p generalizing k with
  | nil =>
    show co (mul [a] q) k = co [] k ^^^ _
    unfold mul; rw [co_add, co_sm, co_nil]
    have : co (0 :: mul [] q) k = 0 := by cases k <;> simp [co, mul]
    rw [this]; simp
  | cons b p ih =>
    show co (add (sm b q) (0 :: mul (p ++ [a]) q)) k = co (add (sm b q) (0 :: mul p q)) k ^^^ _
    rw [co_add, co_add]
    cases k with
    | zero => simp [co_zero]
    | succ k =>
      rw [co_succ, co_succ, ih, Nat.xor_assoc]
      simp
theorem mul_len (p q : List Nat) : (mul p q).length ≤ p.length + q.length := by
  induction p with
  | nil => simp [mul]
  | cons a p ih => simp only [mul, add_len, sm_len, List.length_cons]; omega

/-! Roots. -/
def qs (a : Nat) : List Nat → List Nat
  | [] => []
  | _ :: p => ev a p :: qs a p
theorem qs_bb (a : Nat) {p : List Nat} (h : BB p) : BB (qs a p) := by
  induction p with
  | nil => exact BB.nil
  | cons b p ih => exact BB.cons (ev_lt h.tail a) (ih h.tail)
theorem co_qs (a : Nat) (p : List Nat) (i : Nat) : co (qs a p) i = ev a (p.drop (i + 1)) := by
  induction p generalizing i with
  | nil => simp [qs, co, ev]
  | cons b p ih =>
    cases i with
    | zero => simp [qs, co]
    | succ i => simp only [qs, co_succ, ih]; rfl
theorem ev_qs {a x : Nat} (ha : a < 256) (hx : x < 256) {p : List Nat} (h : BB p) : ev x p ^^^ ev a p = gm (x ^^^ a) (ev x (qs a p)) := by
  induction p with
  | nil => simp [ev, qs, gm_zero_right]
  | cons b p ih =>
    have hxa := xor_lt hx ha
    have h1 := ev_lt h.tail a
    have h2 := ev_lt h.tail x
    show (b ^^^ gm x (ev x p)) ^^^ (b ^^^ gm a (ev a p)) = gm (x ^^^ a) (ev a p ^^^ gm x (ev x (qs a p)))
    rw [gm_xor_right hxa h1 (gm_lt _ _), ← gm_assoc hxa hx (ev_lt (qs_bb a h.tail) x), gm_comm (x ^^^ a) x, gm_assoc hx hxa (ev_lt (qs_bb a h.tail) x), ← ih h.tail, gm_xor_left hx ha h1, gm_xor_right hx h2 h1, xor4, Nat.xor_self, Nat.zero_xor]
    generalize gm x (ev x p) = A
    generalize gm a (ev a p) = B
    generalize gm x (ev a p) = C
    rw [Nat.xor_comm C B, Nat.xor_comm A C, Nat.xor_assoc, ← Nat.xor_assoc C C A, Nat.xor_self, Nat.zero_xor, Nat.xor_comm]
/-- The degree is below n. -/
def Dg (p : List Nat) (n : Nat) : Prop := ∀ i, n ≤ i → co p i = 0
theorem Dg.len {p : List Nat} {n : Nat} (h : p.length ≤ n) : Dg p n := fun _ hi => co_far (by omega)
theorem Dg.mono {p : List Nat} {n m : Nat} (h : Dg p n) (hm : n ≤ m) : Dg p m := fun i hi => h i (by omega)
theorem Dg.tr {p : List Nat} {n : Nat} (h : Dg p n) : (tr p).length ≤ n := by
  by_cases e : Pol.tr p = []
  · rw [e]; simp
  · have := tr_last e
    rcases Nat.lt_or_ge n (Pol.tr p).length with h1 | h1
    · exact absurd (h _ (by omega)) this
    · exact h1
theorem Dg.add {p q : List Nat} {n : Nat} (h : Dg p n) (k : Dg q n) : Dg (add p q) n := fun i hi => by rw [co_add, h i hi, k i hi]; rfl
theorem ev_split (a : Nat) (p : List Nat) (i : Nat) : ev a (p.drop i) = co p i ^^^ gm a (ev a (p.drop (i + 1))) := by
  by_cases h : i < p.length
  · rw [List.drop_eq_getElem_cons h, co_get h]; rfl
  · rw [List.drop_eq_nil_of_le (by omega), List.drop_eq_nil_of_le (by omega), co_far (by omega)]; simp [ev, gm_zero_right]
theorem xor_eq_zero {a b : Nat} (h : a ^^^ b = 0) : a = b := by
  have : (a ^^^ b) ^^^ b = b := by rw [h, Nat.zero_xor]
  rwa [Nat.xor_assoc, Nat.xor_self, Nat.xor_zero] at this
/-- A polynomial of a degree below n with n roots is 0. -/
theorem no_roots {n : Nat} {p xs : List Nat} (hp : BB p) (hd : Dg p n) (hx : BB xs) (hn : xs.Nodup) (hl : n ≤ xs.length) (hr : ∀ x ∈ xs, ev x p = 0) : ∀ i, co p i = 0 := by
  induction n generalizing p xs with
  | zero => exact fun i => hd i (Nat.zero_le _)
  | succ n ih =>
    cases xs with
    | nil => simp at hl
    | cons a xs =>
      have ha := hx.head
      have hra := hr a (by simp)
      have hq : ∀ i, co (qs a p) i = 0 := by
        refine ih (qs_bb a hp) ?_ hx.tail (List.nodup_cons.1 hn).2 (by simpa using hl) ?_
        · intro i hi
          rw [co_qs]
          exact ev_zero a (fun j => by rw [co_drop]; exact hd _ (by omega))
        · intro x hxs
          have hxb := hx.tail x hxs
          have hne : x ≠ a := fun e => (List.nodup_cons.1 hn).1 (e ▸ hxs)
          have h1 := ev_qs ha hxb hp
          rw [hr x (by simp [hxs]), hra, Nat.xor_self] at h1
          rcases gm_eq_zero.1 h1.symm with h2 | h2
          · exact absurd (xor_eq_zero h2) hne
          · exact h2
      intro i
      have e1 := ev_split a p i
      have e2 := hq i
      rw [co_qs] at e2
      rw [e2, gm_zero_right, Nat.xor_zero] at e1
      cases i with
      | zero => rw [← e1]; simpa using hra
      | succ i => have e3 := hq i; rw [co_qs] at e3; rw [← e1, e3]
/-- Two polynomials of a degree below n that agree at n points are one. -/
theorem unique {n : Nat} {p q xs : List Nat} (hp : BB p) (hq : BB q) (hdp : Dg p n) (hdq : Dg q n) (hx : BB xs) (hn : xs.Nodup) (hl : n ≤ xs.length) (hr : ∀ x ∈ xs, ev x p = ev x q) : ∀ i, co p i = co q i := fun i => by
  have h := no_roots (add_bb hp hq) (hdp.add hdq) hx hn hl (fun x hxs => by rw [ev_add hp hq (hx x hxs), hr x hxs, Nat.xor_self]) i
  rw [co_add] at h
  exact xor_eq_zero h

/-! The polynomial of some roots. -/
theorem mul_one_bb (a : Nat) (ha : a < 256) : BB [a, 1] := BB.cons ha (BB.cons (by omega) BB.nil)
theorem co_mul_lin {p : List Nat} (hp : BB p) (a k : Nat) : co (mul p [a, 1]) (k + 1) = gm (co p (k + 1)) a ^^^ co p k := by
  induction p generalizing k with
  | nil => simp [mul, co_nil, gm_zero_left]
  | cons b p ih =>
    unfold mul
    rw [co_add, co_sm, co_succ, co_succ, co_succ]
    cases k with
    | zero =>
      have : co (mul p [a, 1]) 0 = gm (co p 0) a := by
        cases p with
        | nil => simp [mul, co_nil, gm_zero_left]
        | cons c p => unfold mul; rw [co_add, co_sm, co_zero, co_zero, co_zero, Nat.xor_zero]
      rw [this, co_zero, co_zero, gm_one hp.head, Nat.xor_comm]
    | succ k => rw [ih hp.tail, co_succ, co_succ, co_nil, gm_zero_right, Nat.zero_xor]
def rt (xs : List Nat) : List Nat := xs.foldl (fun p a => tr (mul p [a, 1])) [1]
theorem rt_snoc (xs : List Nat) (a : Nat) : rt (xs ++ [a]) = tr (mul (rt xs) [a, 1]) := by simp [rt]
theorem rt_bb (xs : List Nat) : BB (rt xs) := by
  have : ∀ ys : List Nat, BB (rt ys.reverse) := by
    intro ys
    induction ys with
    | nil => exact BB.cons (by omega) BB.nil
    | cons a ys ih => rw [List.reverse_cons, rt_snoc]; exact tr_bb (mul_bb _ _)
  have h := this xs.reverse
  rwa [List.reverse_reverse] at h
/-- Its degree is the number of roots, and its first byte 1. -/
theorem rt_top (xs : List Nat) : (rt xs).length = xs.length + 1 ∧ co (rt xs) xs.length = 1 := by
  have : ∀ ys : List Nat, (rt ys.reverse).length = ys.length + 1 ∧ co (rt ys.reverse) ys.length = 1 := by
    intro ys
    induction ys with
    | nil => exact ⟨rfl, rfl⟩
    | cons a ys ih =>
      rw [List.reverse_cons, rt_snoc]
      have h1 : co (mul (rt ys.reverse) [a, 1]) (ys.length + 1) = 1 := by
        rw [co_mul_lin (rt_bb _), ih.2, co_far (by rw [ih.1]; omega), gm_zero_left]; rfl
      have h2 : ∀ i, ys.length + 2 ≤ i → co (mul (rt ys.reverse) [a, 1]) i = 0 := fun i hi => by
        obtain ⟨k, rfl⟩ : ∃ k, i = k + 1 := ⟨i - 1, by omega⟩
        rw [co_mul_lin (rt_bb _), co_far (by rw [ih.1]; omega), co_far (by rw [ih.1]; omega), gm_zero_left]; rfl
      have h3 : ys.length + 2 ≤ (mul (rt ys.reverse) [a, 1]).length := by
        rcases Nat.lt_or_ge (mul (rt ys.reverse) [a, 1]).length (ys.length + 2) with h | h
        · rw [co_far (by omega)] at h1; omega
        · exact h
      have h4 := tr_take _ (ys.length + 2) h3 h2 (.inr (by show co _ (ys.length + 1) ≠ 0; rw [h1]; omega))
      constructor
      · rw [h4, List.length_take]; simp; omega
      · rw [List.length_cons, co_tr, h1]
  have h := this xs.reverse
  rwa [List.reverse_reverse, List.length_reverse] at h
theorem ev_rt_snoc (xs : List Nat) {a x : Nat} (ha : a < 256) (hx : x < 256) : ev x (rt (xs ++ [a])) = gm (ev x (rt xs)) (a ^^^ x) := by
  rw [rt_snoc, ev_tr, ev_mul (rt_bb xs) (mul_one_bb a ha) hx]
  congr 1
  show a ^^^ gm x (1 ^^^ gm x 0) = a ^^^ x
  rw [gm_zero_right, Nat.xor_zero, gm_one hx]
/-- It is 0 there, and nowhere else. -/
theorem ev_rt_zero {xs : List Nat} (h : BB xs) {x : Nat} (hx : x < 256) : ev x (rt xs) = 0 ↔ x ∈ xs := by
  have : ∀ ys : List Nat, BB ys → (ev x (rt ys.reverse) = 0 ↔ x ∈ ys) := by
    intro ys hy
    induction ys with
    | nil => simp [rt, ev, gm_zero_right]
    | cons a ys ih =>
      rw [List.reverse_cons, ev_rt_snoc _ hy.head hx, gm_eq_zero, ih hy.tail, List.mem_cons]
      constructor
      · rintro (h | h)
        · exact .inr h
        · exact .inl (xor_eq_zero h).symm
      · rintro (h | h)
        · subst h; exact .inr (Nat.xor_self _)
        · exact .inl h
  have h2 := this xs.reverse (fun y hy => h y (List.mem_reverse.1 hy))
  rw [List.reverse_reverse, List.mem_reverse] at h2
  exact h2

/-! The polynomial through points. -/
def lagc (xs ys : List Nat) (i : Nat) : Nat := gm (co ys i) (inv (ev (co xs i) (rt (xs.eraseIdx i))))
def lag (xs ys : List Nat) (i : Nat) : List Nat := tr (mul (rt (xs.eraseIdx i)) [lagc xs ys i])
def thrTo (xs ys : List Nat) : Nat → List Nat
  | 0 => []
  | k + 1 => tr (add (thrTo xs ys k) (lag xs ys k))
theorem lag_bb (xs ys : List Nat) (i : Nat) : BB (lag xs ys i) := tr_bb (mul_bb _ _)
theorem thrTo_bb (xs ys : List Nat) (k : Nat) : BB (thrTo xs ys k) := by
  cases k with
  | zero => exact BB.nil
  | succ k => exact tr_bb (add_bb (by induction k with
      | zero => exact BB.nil
      | succ k ih => exact tr_bb (add_bb ih (lag_bb _ _ _))) (lag_bb _ _ _))
theorem lagc_lt (xs ys : List Nat) (i : Nat) : lagc xs ys i < 256 := gm_lt _ _
theorem co_mul_one (p : List Nat) (c i : Nat) : co (mul p [c]) i = gm (co p i) c := by
  induction p generalizing i with
  | nil => simp [mul, co_nil, gm_zero_left]
  | cons b p ih =>
    unfold mul; rw [co_add]
    cases i with
    | zero => simp [co_sm, co_zero]
    | succ i => rw [co_succ, ih, co_succ, co_sm, co_succ, co_nil, gm_zero_right, Nat.zero_xor]
theorem lag_dg {xs : List Nat} (ys : List Nat) {i : Nat} (hi : i < xs.length) : Dg (lag xs ys i) xs.length := fun j hj => by
  unfold lag
  rw [co_tr, co_mul_one, co_far, gm_zero_left]
  have := (rt_top (xs.eraseIdx i)).1
  rw [List.length_eraseIdx_of_lt hi] at this
  omega
theorem thrTo_dg {xs : List Nat} (ys : List Nat) {k : Nat} (hk : k ≤ xs.length) : Dg (thrTo xs ys k) xs.length := by
  induction k with
  | zero => exact fun i _ => co_nil i
  | succ k ih => exact fun j hj => by unfold thrTo; rw [co_tr]; exact (Dg.add (ih (by omega)) (lag_dg ys (by omega))) j hj
theorem BB.erase {xs : List Nat} (h : BB xs) (i : Nat) : BB (xs.eraseIdx i) := fun x hx => h x (List.mem_of_mem_eraseIdx hx)
theorem mem_erase {xs : List Nat} {i j : Nat} (hj : j < xs.length) (hne : j ≠ i) : xs[j] ∈ xs.eraseIdx i := by
  rw [List.mem_eraseIdx_iff_getElem]
  exact ⟨j, hj, hne, rfl⟩
theorem not_mem_erase {xs : List Nat} (hn : xs.Nodup) {i : Nat} (hi : i < xs.length) : xs[i] ∉ xs.eraseIdx i := by
  rw [List.mem_eraseIdx_iff_getElem]
  rintro ⟨j, hj, hne, e⟩
  exact hne ((List.getElem_inj hn).1 e)
theorem ev_lag {xs ys : List Nat} (hx : BB xs) (hy : BB ys) (hn : xs.Nodup) {i j : Nat} (hi : i < xs.length) (hj : j < xs.length) : ev xs[j] (lag xs ys i) = if j = i then co ys i else 0 := by
  have hxj := hx.get hj
  unfold lag
  rw [ev_tr, ev_mul (rt_bb _) (BB.cons (lagc_lt _ _ _) BB.nil) hxj]
  have e1 : ev xs[j] [lagc xs ys i] = lagc xs ys i := by simp [ev, gm_zero_right]
  rw [e1]
  by_cases h : j = i
  · subst h
    rw [if_pos rfl]
    have hne : ev xs[j] (rt (xs.eraseIdx j)) ≠ 0 := fun h0 => not_mem_erase hn hj ((ev_rt_zero (hx.erase j) hxj).1 h0)
    unfold lagc
    rw [co_get hj, gm_comm (co ys j), ← gm_assoc (ev_lt (rt_bb _) _) (inv_lt _) (hy.co j), gm_inv (ev_lt (rt_bb _) _) hne, gm_one_left (hy.co j)]
  · rw [if_neg h, (ev_rt_zero (hx.erase i) hxj).2 (mem_erase hj h), gm_zero_left]
theorem ev_thrTo {xs ys : List Nat} (hx : BB xs) (hy : BB ys) (hn : xs.Nodup) {k j : Nat} (hk : k ≤ xs.length) (hj : j < xs.length) : ev xs[j] (thrTo xs ys k) = if j < k then co ys j else 0 := by
  induction k with
  | zero => simp [thrTo, ev]
  | succ k ih =>
    unfold thrTo
    rw [ev_tr, ev_add (thrTo_bb _ _ _) (lag_bb _ _ _) (hx.get hj), ih (by omega), ev_lag hx hy hn (by omega) hj]
    by_cases h1 : j < k
    · rw [if_pos h1, if_neg (by omega), if_pos (by omega), Nat.xor_zero]
    · rw [if_neg h1]
      by_cases h2 : j = k
      · subst h2; rw [if_pos rfl, if_pos (by omega), Nat.zero_xor]
      · rw [if_neg h2, if_neg (by omega)]; rfl
/-- The polynomial through all points. -/
def thr (xs ys : List Nat) : List Nat := tr (thrTo xs ys xs.length)
theorem thr_bb (xs ys : List Nat) : BB (thr xs ys) := tr_bb (thrTo_bb _ _ _)
theorem thr_len (xs ys : List Nat) : (thr xs ys).length ≤ xs.length := Dg.tr (thrTo_dg ys (Nat.le_refl _))
theorem thr_at {xs ys : List Nat} (hx : BB xs) (hy : BB ys) (hn : xs.Nodup) {j : Nat} (hj : j < xs.length) : ev xs[j] (thr xs ys) = co ys j := by
  unfold thr; rw [ev_tr, ev_thrTo hx hy hn (Nat.le_refl _) hj, if_pos hj]
/-- Whatever has those values, and is short enough, is that. -/
theorem thr_only {xs ys p : List Nat} (hx : BB xs) (hy : BB ys) (hn : xs.Nodup) (hp : BB p) (hl : Dg p xs.length) (h : ∀ j (hj : j < xs.length), ev xs[j] p = co ys j) : tr p = thr xs ys := by
  have e := unique hp (thr_bb xs ys) hl (Dg.len (thr_len xs ys)) hx hn (Nat.le_refl _) (fun x hxs => by
    obtain ⟨j, hj, rfl⟩ := List.getElem_of_mem hxs
    rw [h j hj, thr_at hx hy hn hj])
  rw [tr_ext e]; unfold thr; rw [tr_tr]
end Pol
end
section
/- Slices of bytes, as the walks of this claim speak of them: one that reads as a list of numbers (nil let in), one that the call itself has made, and what append makes of the two. -/
namespace Gw
open Go Go.RowKit Go.Shelf

/-- Bytes as values. -/
def bys (l : List Nat) : List Value := l.map (fun (x : Nat) => Value.int .u8 (x : Int))
theorem bys_len (l : List Nat) : (bys l).length = l.length := by simp [bys]
theorem bys_app (l m : List Nat) : bys (l ++ m) = bys l ++ bys m := by simp [bys]
theorem bys_one (l : List Nat) : ∀ u ∈ bys l, u.oneCell' = true := fun u hu => by
  obtain ⟨x, _, rfl⟩ := List.mem_map.1 hu; rfl
theorem bys_get {l : List Nat} {j : Nat} {u : Value} (h : (bys l)[j]? = some u) : ∃ x, l[j]? = some x ∧ u = .int .u8 (x : Int) := by
  simp only [bys, List.getElem?_map, Option.map_eq_some_iff] at h
  obtain ⟨x, hx, rfl⟩ := h; exact ⟨x, hx, rfl⟩
theorem bys_at {l : List Nat} {j : Nat} {x : Nat} (h : l[j]? = some x) : (bys l)[j]? = some (.int .u8 (x : Int)) := by simp [bys, h]
theorem bys_set (l : List Nat) (j x : Nat) : (bys l).set j (.int .u8 (x : Int)) = bys (l.set j x) := by simp [bys, List.map_set]

/-- The slice at A reads as l; it lies below block B. -/
def Sl (w : World) (B : Nat) (A : Option Addr) (l : List Nat) : Prop :=
  ∀ (i x : Nat), l[i]? = some x → x < 256 ∧ ∃ b off, A = some ⟨b, off, none⟩ ∧ b < B ∧ w.cell? ⟨b, off + i, none⟩ = some (.int .u8 (x : Int))
theorem Sl.nil {w : World} {B : Nat} {A : Option Addr} : Sl w B A [] := fun i x h => by simp at h
theorem Sl.bb {w : World} {B : Nat} {A : Option Addr} {l : List Nat} (h : Sl w B A l) : Pol.BB l := fun x hx => by
  obtain ⟨i, hi⟩ := List.getElem?_of_mem hx; exact (h i x hi).1
theorem Sl.at_ {w : World} {B : Nat} {A : Option Addr} {l : List Nat} (h : Sl w B A l) {k : Nat} (hk : k < l.length) :
    ∃ x b off, l[k]? = some x ∧ x < 256 ∧ A = some ⟨b, off, none⟩ ∧ b < B ∧ w.cell? ⟨b, off + k, none⟩ = some (.int .u8 (x : Int)) := by
  have e := List.getElem?_eq_getElem hk
  obtain ⟨h1, b, off, h2, h3, h4⟩ := h k _ e
  exact ⟨_, b, off, e, h1, h2, h3, h4⟩
theorem Sl.keep {w w' : World} {B : Nat} {A : Option Addr} {l : List Nat} (h : Sl w B A l) (hk : ∀ p : Addr, p.block < B → w'.cell? p = w.cell? p) : Sl w' B A l := fun i x hx => by
  obtain ⟨h1, b, off, h2, h3, h4⟩ := h i x hx
  exact ⟨h1, b, off, h2, h3, (hk ⟨b, off + i, none⟩ h3).trans h4⟩
theorem Sl.more {w : World} {B B' : Nat} {A : Option Addr} {l : List Nat} (h : Sl w B A l) (hB : B ≤ B') : Sl w B' A l := fun i x hx => by
  obtain ⟨h1, b, off, h2, h3, h4⟩ := h i x hx
  exact ⟨h1, b, off, h2, by omega, h4⟩
theorem Sl.below {w w' : World} {B : Nat} {A : Option Addr} {l : List Nat} (h : Sl w B A l) (hb : Below B w w') : Sl w' B A l := h.keep fun _ hp => hb.cell hp
theorem Sl.drewN {w : World} {B : Nat} {A : Option Addr} {l : List Nat} (h : Sl w B A l) (n : Nat) : Sl (w.drewN n) B A l := h
theorem Sl.alloc {w : World} {B : Nat} {A : Option Addr} {l : List Nat} (h : Sl w B A l) (hB : B ≤ w.heap.size) (o : Obj) : Sl (w.alloc o) B A l := h.keep fun p hp => World.cell?_alloc_lt w o p (by omega)
theorem Sl.take {w : World} {B : Nat} {A : Option Addr} {l : List Nat} (h : Sl w B A l) (n : Nat) : Sl w B A (l.take n) := fun i x hx => by
  rw [List.getElem?_take] at hx
  split at hx
  · exact h i x hx
  · cases hx
theorem Sl.drop {w : World} {B : Nat} {A : Option Addr} {l : List Nat} (h : Sl w B A l) (n : Nat) : Sl w B (A.map (fun a => ⟨a.block, a.off + n, a.spot⟩)) (l.drop n) := fun i x hx => by
  rw [List.getElem?_drop] at hx
  obtain ⟨h1, b, off, h2, h3, h4⟩ := h _ x hx
  subst h2
  exact ⟨h1, b, off + n, rfl, h3, by rw [Nat.add_assoc]; exact h4⟩

/-- The slice at A, of capacity c, is the call's own (from block 'base' on) and holds l. e: byte's number among the types. -/
def Own (w : World) (base : Nat) (e : TypeId) (A : Option Addr) (c : Nat) (l : List Nat) : Prop :=
  w.ownsRow base e 1 (.slice A l.length c) l.length (bys l) ∧ Pol.BB l
theorem Own.sl {w : World} {base : Nat} {e : TypeId} {A : Option Addr} {c : Nat} {l : List Nat} (h : Own w base e A c l) : Sl w w.heap.size A l := fun i x hx => by
  refine ⟨h.2 x (List.mem_of_getElem? hx), ?_⟩
  have hi : i < l.length := (List.getElem?_eq_some_iff.1 hx).1
  rcases h.1.2 with ⟨_, h0⟩ | ⟨g, cap, cur, hv, hb, hg, hnc, hm, hs, ht⟩
  · omega
  · injection hv with hA hn hc
    subst hA hc
    refine ⟨g, 0, rfl, (Array.getElem?_eq_some_iff.1 hg).1, ?_⟩
    rw [Nat.zero_add, h.1.cellAt i (by omega)]
    exact bys_at hx
theorem Own.cap {w : World} {base : Nat} {e : TypeId} {A : Option Addr} {c : Nat} {l : List Nat} (h : Own w base e A c l) : l.length ≤ c := by
  rcases h.1.2 with ⟨hv, h0⟩ | ⟨g, cap, cur, hv, hb, hg, hnc, hm, hs, ht⟩
  · omega
  · injection hv with hA hn hc; omega
theorem Own.alloc {w : World} {base : Nat} {e : TypeId} {A : Option Addr} {c : Nat} {l : List Nat} (h : Own w base e A c l) (o : Obj) : Own (w.alloc o) base e A c l := ⟨h.1.alloc o, h.2⟩
theorem Own.drewN {w : World} {base : Nat} {e : TypeId} {A : Option Addr} {c : Nat} {l : List Nat} (h : Own w base e A c l) (n : Nat) : Own (w.drewN n) base e A c l := h
theorem Own.mk' {w : World} {base : Nat} {e : TypeId} {v : Value} {n : Nat} {l : List Nat} (h : w.ownsRow base e 1 v n (bys l)) (hb : Pol.BB l) : ∃ A c, v = .slice A l.length c ∧ Own w base e A c l := by
  have hn : n = l.length := by have := h.1; rw [bys_len] at this; omega
  subst hn
  rcases h.2 with ⟨hv, h0⟩ | ⟨g, cap, cur, hv, _⟩
  · subst hv; exact ⟨none, 0, by rw [h0], by rw [h0] at h; exact by rw [h0]; exact h, hb⟩
  · subst hv; exact ⟨_, cap, rfl, h, hb⟩
theorem Own.kept {w w' : World} {base : Nat} {e : TypeId} {A : Option Addr} {c : Nat} {l : List Nat} (h : Own w base e A c l) (hb : Below w.heap.size w w') : Own w' base e A c l := by
  refine ⟨h.1.kept (row := none) ⟨hb.os, hb.tape, hb.output, hb.size, fun k hk _ => hb.block k hk⟩ ?_, h.2⟩
  cases A with
  | none => exact .inl rfl
  | some a => exact .inr (by simp [Value.ownBlock])
theorem Own.base {w : World} {base base' : Nat} {e : TypeId} {A : Option Addr} {c : Nat} {l : List Nat} (h : Own w base e A c l) (hb : base' ≤ base) : Own w base' e A c l := by
  refine ⟨⟨h.1.1, ?_⟩, h.2⟩
  rcases h.1.2 with h0 | ⟨g, cap, cur, hv, hg, h0⟩
  · exact .inl h0
  · exact .inr ⟨g, cap, cur, hv, by omega, h0⟩
theorem Own.none_ (w : World) (base : Nat) (e : TypeId) : Own w base e none 0 [] := ⟨World.ownsRow_nil w base e 1, Pol.BB.nil⟩
/-- '[]byte{}'. -/
theorem Own.lit0 (w : World) (base : Nat) (e : TypeId) (hb : base ≤ w.heap.size) : Own (w.alloc (.cells #[] e)) base e (some ⟨w.heap.size, 0, none⟩) 0 [] :=
  ⟨World.ownsRow_made w #[] 0 hb (by simp [maxLen]) rfl, Pol.BB.nil⟩

/-- A slice of bytes that may be handed on: it reads as l, its capacity c is no less, and nil has none. -/
structure In (w : World) (B : Nat) (A : Option Addr) (c : Nat) (l : List Nat) : Prop where
  sl : Sl w B A l
  cap : l.length ≤ c
  none_ : A = none → c = 0
theorem In.below {w w' : World} {B : Nat} {A : Option Addr} {c : Nat} {l : List Nat} (h : In w B A c l) (hb : Below B w w') : In w' B A c l := ⟨h.sl.below hb, h.cap, h.none_⟩
theorem In.more {w : World} {B B' : Nat} {A : Option Addr} {c : Nat} {l : List Nat} (h : In w B A c l) (hB : B ≤ B') : In w B' A c l := ⟨h.sl.more hB, h.cap, h.none_⟩
theorem In.drewN {w : World} {B : Nat} {A : Option Addr} {c : Nat} {l : List Nat} (h : In w B A c l) (n : Nat) : In (w.drewN n) B A c l := ⟨h.sl.drewN n, h.cap, h.none_⟩
theorem In.alloc {w : World} {B : Nat} {A : Option Addr} {c : Nat} {l : List Nat} (h : In w B A c l) (hB : B ≤ w.heap.size) (o : Obj) : In (w.alloc o) B A c l := ⟨h.sl.alloc hB o, h.cap, h.none_⟩
theorem In.bb {w : World} {B : Nat} {A : Option Addr} {c : Nat} {l : List Nat} (h : In w B A c l) : Pol.BB l := h.sl.bb
theorem Own.inn {w : World} {base : Nat} {e : TypeId} {A : Option Addr} {c : Nat} {l : List Nat} (h : Own w base e A c l) : In w w.heap.size A c l := by
  refine ⟨h.sl, h.cap, fun hA => ?_⟩
  subst hA
  rcases h.1.2 with ⟨hv, _⟩ | ⟨g, cap, cur, hv, _⟩
  · injection hv
  · injection hv with hA; cases hA

/-- A new block of one byte, as a slice. -/
theorem Sl.one (w : World) (e : TypeId) (y : Nat) (hy : y < 256) : Sl (w.alloc (.cells #[.int .u8 (y : Int)] e)) (w.heap.size + 1) (some ⟨w.heap.size, 0, none⟩) [y] := fun i x hx => by
  cases i with
  | zero => simp at hx; subst hx; exact ⟨hy, _, 0, rfl, by omega, World.cell?_alloc_new w #[.int .u8 (y : Int)] e 0⟩
  | succ i => simp at hx
theorem take_snoc {l : List Nat} {k y : Nat} (h : l[k]? = some y) : l.take k ++ [y] = l.take (k + 1) := by rw [List.take_add_one, h]; rfl

theorem own_any {A : Option Addr} {n c m k : Nat} (h : (Value.slice A n c).ownBlock = some k) : (Value.slice A m c).ownBlock = some k := by
  cases A with
  | none => cases h
  | some a => exact h
/-- Nothing old is turned by an append onto what the call has made. -/
theorem below_app {w wr w2 : World} {base : Nat} {e : TypeId} {A : Option Addr} {n c : Nat} {l : List Nat} {o : Obj} (hb : Below base w wr) (hs : base ≤ wr.heap.size) (ho : Own wr base e A c l)
    (hg : (wr.alloc o).grownBy w2 (Value.slice A n c).ownBlock) : Below base w w2 :=
  (hb.alloc hs o).grown hg (by simp; omega) (fun k hk => (ho.1.lt k (own_any hk)).1)
theorem below_app0 {w wr w2 : World} {base : Nat} {e : TypeId} {A : Option Addr} {n c : Nat} {l : List Nat} (hb : Below base w wr) (hs : base ≤ wr.heap.size) (ho : Own wr base e A c l)
    (hg : wr.grownBy w2 (Value.slice A n c).ownBlock) : Below base w w2 :=
  hb.grown hg hs (fun k hk => (ho.1.lt k (own_any hk)).1)

/-- The same, onto '[]byte{}' inside a region that leaves its order open. -/
theorem below_lit {w wr w2 : World} {base : Nat} {e : TypeId} (hb : Below base w wr) (hs : base ≤ wr.heap.size) (hg : (wr.alloc (.cells #[] e)).drew.grownBy w2 (Value.slice (some ⟨wr.heap.size, 0, none⟩) 0 0).ownBlock) : Below base w w2 :=
  ((hb.alloc hs (.cells #[] e)).drew).grown hg (by show base ≤ (wr.alloc _).heap.size; simp; omega) (fun k hk => by simp [Value.ownBlock] at hk; omega)

theorem below_lit' {w wr w2 : World} {base : Nat} {e : TypeId} (hb : Below base w wr) (hs : base ≤ wr.heap.size) (hg : (wr.alloc (.cells #[] e)).grownBy w2 (Value.slice (some ⟨wr.heap.size, 0, none⟩) 0 0).ownBlock) : Below base w w2 :=
  (hb.alloc hs (.cells #[] e)).grown hg (by simp; omega) (fun k hk => by simp [Value.ownBlock] at hk; omega)

/-- What append answers: some slice of the call's own, that holds both. -/
theorem run_app {P : Program} {w : World} (t ty : TypeId) (base : Nat) (e : TypeId) (i : TypeInfo) (z : Value) (ht : P.underlying t = some (.slice e)) (hi : P.info? e = some i) (hz : i.zero = some z)
    (hsize : i.size = 1) (hby : i.bytes = 1) (hzs : z.cells.size = 1)
    (A : Option Addr) (n c : Nat) (l : List Nat) (hn : n = l.length) (hown : Own w base e A c l)
    (B : Nat) (A' : Option Addr) (m c' : Nat) (l' : List Nat) (hm : m = l'.length) (hc' : A' = none → c' = 0) (hr : Sl w B A' l')
    (hbytes : l.length + l'.length ≤ 140737488355328) (hbase : base ≤ w.heap.size) :
    ∃ A2 c2 w', (Builtin.append_ #[t, t] ty #[.slice A n c, .slice A' m c']).run P w = .ok (.slice A2 (l ++ l').length c2) w' ∧ Own w' base e A2 c2 (l ++ l') ∧ w.grownBy w' (Value.slice A n c).ownBlock := by
  subst hn hm
  cases A' with
  | none =>
    have h0 : l' = [] := by
      cases l' with
      | nil => rfl
      | cons y l' => obtain ⟨_, b, off, hb, _⟩ := hr 0 y rfl; cases hb
    subst h0
    have hc0 := hc' rfl
    subst hc0
    have hrun := run_append_owned_none (P := P) (w := w) base t ty e i 1 ht hi _ _ _ hown.1
    exact ⟨A, c, w, by simpa using hrun, by simpa using hown, World.grownBy.refl w _⟩
  | some ad =>
    obtain ⟨v', w', hrun, h2, h3, _⟩ := run_append_own_at (P := P) w base t ty e i z 1 1 ht hi hz hsize hby hzs (by omega) _ _ _ hown.1 ad l'.length c' (bys l') (by rw [bys_len, Nat.mul_one]) (fun j u hj => by
      obtain ⟨y, hy, rfl⟩ := bys_get hj
      obtain ⟨_, b, off, hb, _, hcell⟩ := hr j y hy
      injection hb with hb
      subst hb
      have e1 : (⟨b, off, none⟩ : Addr).add j = ⟨b, off + j, none⟩ := by
        unfold Addr.add; split
        · rename_i h0; subst h0; rfl
        · rfl
      rw [e1]; exact hcell) (bys_one l') (by simp only [maxLen]; omega) (by omega) hbase
    rw [← bys_app] at h2
    obtain ⟨A2, c2, hv, ho2⟩ := Own.mk' h2 (hown.2.append hr.bb)
    subst hv
    exact ⟨A2, c2, w', hrun, ho2, h3⟩
theorem wp_app {P : Program} {w : World} {o : Oper} {a : Act} {K : Act → World → Prop} {Q : Exit → Act → World → Prop} (s x : Operand) (t : TypeId)
    (ho : o.op = .call { callee := .builtin .append, args := #[s, x], argTypes := #[t, t] })
    (base : Nat) (e : TypeId) (i : TypeInfo) (z : Value) (ht : P.underlying t = some (.slice e)) (hi : P.info? e = some i) (hz : i.zero = some z)
    (hsize : i.size = 1) (hby : i.bytes = 1) (hzs : z.cells.size = 1)
    (A : Option Addr) (n c : Nat) (l : List Nat) (hs : a.eval s = .slice A n c) (hn : n = l.length) (hown : Own w base e A c l)
    (B : Nat) (A' : Option Addr) (m c' : Nat) (l' : List Nat) (hx : a.eval x = .slice A' m c') (hm : m = l'.length) (hc' : A' = none → c' = 0) (hr : Sl w B A' l')
    (hbytes : l.length + l'.length ≤ 140737488355328) (hbase : base ≤ w.heap.size)
    (h : ∀ A2 c2 w', Own w' base e A2 c2 (l ++ l') → w.grownBy w' (Value.slice A n c).ownBlock → K (a.put o.dst (.slice A2 (l ++ l').length c2)) w') : o.wp P a w K Q := by
  obtain ⟨A2, c2, w', hrun, h2, h3⟩ := run_app (P := P) t o.type base e i z ht hi hz hsize hby hzs A n c l hn hown B A' m c' l' hm hc' hr hbytes hbase
  unfold Oper.wp execOp
  simp only [ho, resolve, invoke, builtin, Sem.run_bind, Sem.run_pure, Result.andThen_ok, List.map_toArray, List.map_cons, List.map_nil, hs, hx, hrun]
  exact h A2 c2 w' h2 h3
theorem wpList_app {P : Program} {w : World} {ops : Array Oper} {rest : List Oper} {o : Oper} {a : Act} {Q : Exit → Act → World → Prop} (hgd : o.guard = none) (s x : Operand) (t : TypeId)
    (ho : o.op = .call { callee := .builtin .append, args := #[s, x], argTypes := #[t, t] })
    (base : Nat) (e : TypeId) (i : TypeInfo) (z : Value) (ht : P.underlying t = some (.slice e)) (hi : P.info? e = some i) (hz : i.zero = some z)
    (hsize : i.size = 1) (hby : i.bytes = 1) (hzs : z.cells.size = 1)
    (A : Option Addr) (n c : Nat) (l : List Nat) (hs : a.eval s = .slice A n c) (hn : n = l.length) (hown : Own w base e A c l)
    (B : Nat) (A' : Option Addr) (m c' : Nat) (l' : List Nat) (hx : a.eval x = .slice A' m c') (hm : m = l'.length) (hc' : A' = none → c' = 0) (hr : Sl w B A' l')
    (hbytes : l.length + l'.length ≤ 140737488355328) (hbase : base ≤ w.heap.size)
    (h : ∀ A2 c2 w', Own w' base e A2 c2 (l ++ l') → w.grownBy w' (Value.slice A n c).ownBlock → wpList P ops Q rest (a.put o.dst (.slice A2 (l ++ l').length c2)) w') : wpList P ops Q (o :: rest) a w :=
  wpList_plain hgd fun _ hK => wp_app s x t ho base e i z ht hi hz hsize hby hzs A n c l hs hn hown B A' m c' l' hx hm hc' hr hbytes hbase fun A2 c2 w' h2 h3 => hK _ _ (h A2 c2 w' h2 h3)
/-- The same as one step of a region that leaves its order open. -/
theorem step_app {P : Program} {w : World} {ops : Array Oper} {o : Oper} {a : Act} {K : Act → World → Prop} {Q : Exit → Act → World → Prop} {E : Prop} (hgd : o.guard = none) (s x : Operand) (t : TypeId)
    (ho : o.op = .call { callee := .builtin .append, args := #[s, x], argTypes := #[t, t] })
    (base : Nat) (e : TypeId) (i : TypeInfo) (z : Value) (ht : P.underlying t = some (.slice e)) (hi : P.info? e = some i) (hz : i.zero = some z)
    (hsize : i.size = 1) (hby : i.bytes = 1) (hzs : z.cells.size = 1)
    (A : Option Addr) (n c : Nat) (l : List Nat) (hs : a.eval s = .slice A n c) (hn : n = l.length) (hown : Own w base e A c l)
    (B : Nat) (A' : Option Addr) (m c' : Nat) (l' : List Nat) (hx : a.eval x = .slice A' m c') (hm : m = l'.length) (hc' : A' = none → c' = 0) (hr : Sl w B A' l')
    (hbytes : l.length + l'.length ≤ 140737488355328) (hbase : base ≤ w.heap.size)
    (h : ∀ A2 c2 w', Own w' base e A2 c2 (l ++ l') → w.grownBy w' (Value.slice A n c).ownBlock → K (a.put o.dst (.slice A2 (l ++ l').length c2)) w') :
    if Region.wanted o (yielded ops a.tmps) = true then Oper.wp P o a w K Q else E := by
  have hw : Region.wanted o (yielded ops a.tmps) = true := by simp [Region.wanted, hgd]
  rw [if_pos hw]
  exact wp_app s x t ho base e i z ht hi hz hsize hby hzs A n c l hs hn hown B A' m c' l' hx hm hc' hr hbytes hbase h

/-- Where a byte of one's own is stored. -/
theorem Own.store {w : World} {base : Nat} {e : TypeId} {A : Option Addr} {c : Nat} {l : List Nat} (h : Own w base e A c l) {k : Nat} (hk : k < l.length) :
    ∃ g, A = some ⟨g, 0, none⟩ ∧ base ≤ g ∧ ∀ y : Nat, y < 256 → Own (w.setCell ⟨g, k, none⟩ (.int .u8 (y : Int))) base e A c (l.set k y) := by
  rcases h.1.2 with ⟨_, h0⟩ | ⟨g, cap, cur, hv, hb, _⟩
  · omega
  · injection hv with hA hn hc
    subst hA hc
    refine ⟨g, rfl, hb, fun y hy => ⟨?_, ?_⟩⟩
    · have := (h.1.stored k (.int .u8 (y : Int))).1
      rw [bys_set] at this
      rw [List.length_set]; exact this
    · intro x hx
      rcases List.mem_or_eq_of_mem_set hx with h1 | h1
      · exact h.2 x h1
      · omega
theorem Own.frozen {w : World} {base : Nat} {e : TypeId} {g c : Nat} {l : List Nat} (h : Own w base e (some ⟨g, 0, none⟩) c l) (k : Nat) : w.frozen? ⟨g, k, none⟩ = false := h.1.frozenAt k

/-! Bytes as a string. -/
def nums (l : List Nat) : List Int := l.map (fun (x : Nat) => (x : Int))
def str (l : List Nat) : ByteArray := strOfNums (nums l)
theorem conv_sl {P : Program} {w : World} {B : Nat} {A : Option Addr} {l : List Nat} (h : Sl w B A l) {src dst e : TypeId} (hs : P.underlying src = some (.slice e)) (he : P.underlying e = some (.int .u8)) (hd : P.underlying dst = some .string) (c : Nat) :
    (convert src dst (.slice A l.length c)).run P w = .ok (.string (str l)) w := by
  cases l with
  | nil =>
    cases A with
    | none => exact run_convert_bytes_nil w src e hs he 0 c dst hd
    | some ad =>
      rw [run_convert_bytes_string w src dst e _ _ c hs he hd, List.length_nil, run_bytesToString w ad 0 c [] (by simp [loadCells, loadCellsFrom])]
      rfl
  | cons y l =>
    obtain ⟨_, b, off, rfl, _, _⟩ := h 0 y rfl
    have := run_convert_bytes_arg (P := P) w src e hs he b off (y :: l).length c (nums (y :: l)) (by simp [nums]) (fun i hi => by
      obtain ⟨_, b', off', e', _, hc⟩ := h i _ (List.getElem?_eq_getElem hi)
      injection e' with e'
      injection e' with e1 e2
      subst e1 e2
      rw [hc, List.getD_eq_getElem?_getD, nums, List.getElem?_map, List.getElem?_eq_getElem hi]; rfl) dst hd
    exact this
theorem str_inj {l m : List Nat} (hl : Pol.BB l) (hm : Pol.BB m) (h : str l = str m) : l = m := by
  have h1 : (strOfNums (nums l)).data.toList = (strOfNums (nums m)).data.toList := by show (str l).data.toList = (str m).data.toList; rw [h]
  rw [strOfNums_data, strOfNums_data] at h1
  have key : ∀ k : List Nat, Pol.BB k → ((nums k).map fun n => UInt8.ofNat n.toNat).map UInt8.toNat = k := fun k hk => by
    induction k with
    | nil => rfl
    | cons y k ih =>
      have := hk.head
      show ((UInt8.ofNat ((y : Int)).toNat).toNat) :: ((nums k).map fun n => UInt8.ofNat n.toNat).map UInt8.toNat = y :: k
      rw [ih hk.tail, Int.toNat_natCast, UInt8.toNat_ofNat_of_lt' (by omega)]
  rw [← key l hl, ← key m hm, h1]
/-- Are two rows of bytes the same? -/
theorem str_same {l m : List Nat} (hl : Pol.BB l) (hm : Pol.BB m) : ((str l).toList == (str m).toList) = decide (l = m) := by
  rw [Bool.eq_iff_iff, beq_iff_eq, decide_eq_true_eq, ByteArray.toList_eq, ByteArray.toList_eq]
  constructor
  · intro h; exact str_inj hl hm (WideShapes.bytes_inj h)
  · intro h; rw [h]
/-- A new block of two bytes, as a slice. -/
theorem Sl.two (w : World) (e : TypeId) (x y : Nat) (hx : x < 256) (hy : y < 256) : Sl (w.alloc (.cells #[.int .u8 (x : Int), .int .u8 (y : Int)] e)) (w.heap.size + 1) (some ⟨w.heap.size, 0, none⟩) [x, y] := fun i z hz => by
  match i, hz with
  | 0, hz => simp at hz; subst hz; exact ⟨hx, _, 0, rfl, by omega, World.cell?_alloc_new w _ e 0⟩
  | 1, hz => simp at hz; subst hz; exact ⟨hy, _, 0, rfl, by omega, World.cell?_alloc_new w _ e 1⟩
end Gw
end
section
/- How an argument that is a slice of bytes is opened: it reads as a list of numbers, and holds no more bytes than the form's own reach. -/
namespace Gw
open Go Go.RowKit Go.Shelf Go.ChangeShapes Go.WideShapes Go.ChangeAt

theorem open_bytes {H : Type} {enc : TypeId × Value → H} {P : Program} {W : World} {t e : TypeId} {r : Reach} {base : Nat} {v : Value} {d : DataW H} {p : List MemPlace}
    (ht : P.underlying t = some (.slice e)) (he : P.underlying e = some (.int .u8)) (hc : P.cellsOf e = 1) (hok : Value.okWide P W r base t v) (h : DataW.Trod enc P W 0 (fun _ => true) true t v d p) :
    ∃ A c l, v = .slice A l.length c ∧ In W W.heap.size A c l ∧ ((d = .nil ∧ c = 0) ∨ ∃ el sp, d = .slice el sp ∧ el.length + sp.length = c) := by
  obtain ⟨A, len, cap, rfl⟩ := okWide_slice ht hok
  obtain ⟨fuel, hf⟩ := h
  rcases open_ints ht he hc hf with ⟨hcs, hx⟩ | ⟨a, len', cap', zs, hcs, _, hl, hm, hz, hx, hcell, hwz⟩
  · simp [Value.cells] at hcs
    obtain ⟨rfl, rfl, rfl⟩ := hcs
    injection hx with hx _
    exact ⟨none, 0, [], rfl, ⟨Sl.nil, Nat.le_refl _, fun _ => rfl⟩, .inl ⟨hx, rfl⟩⟩
  · simp [Value.cells] at hcs
    obtain ⟨rfl, rfl, rfl⟩ := hcs
    simp only [if_true] at hz
    injection hx with hx _
    obtain ⟨l, hl2⟩ : ∃ l : List Nat, l = (zs.take len).map Int.toNat := ⟨_, rfl⟩
    have hll : l.length = len := by rw [hl2]; simp; omega
    refine ⟨some a, cap, l, by rw [hll], ⟨?_, by omega, fun h => by cases h⟩, .inr ⟨_, _, hx, ?_⟩⟩
    · intro i x hi
      have hil : i < l.length := (List.getElem?_eq_some_iff.1 hi).1
      have hiz : i < zs.length := by omega
      have hx2 : x = (zs[i]).toNat := by
        rw [hl2, List.getElem?_map, List.getElem?_take, if_pos (by omega), List.getElem?_eq_getElem hiz] at hi
        simpa using hi.symm
      have hw := bounds_u8 (hwz _ (List.getElem_mem hiz))
      have hc0 := hcell i hiz
      have hg : zs.getD i 0 = zs[i] := by simp [List.getD, hiz]
      rw [hg] at hc0
      have hci : ((zs[i]).toNat : Int) = zs[i] := by omega
      obtain ⟨b, off, spot⟩ := a
      have hsp : spot = none := by
        have h0 := World.cell?_spot (hcell 0 (by omega))
        simpa [Addr.add] using h0
      subst hsp
      have hadd : (⟨b, off, none⟩ : Addr).add i = ⟨b, off + i, none⟩ := by
        unfold Addr.add; split
        · rename_i h0; subst h0; rfl
        · rfl
      rw [hadd] at hc0
      refine ⟨by omega, b, off, rfl, ?_, by rw [hx2, hci]; exact hc0⟩
      have : W.heap[b]? ≠ none := fun hn => by
        unfold World.cell? at hc0
        simp [hn] at hc0
      rcases Nat.lt_or_ge b W.heap.size with h1 | h1
      · exact h1
      · exact absurd (Array.getElem?_eq_none h1) this
    · simp [lits]; omega
theorem sized_bytes {H : Type} {P : Program} {ts : List TypeId} {ds : List (DataW H)} (h : (DataW.weightsEach P ts ds).all (· ≤ reachBytes) = true) {j : Nat} {t e : TypeId} {d : DataW H} {c : Nat} (ht : ts[j]? = some t) (hd : ds[j]? = some d)
    (hu : P.underlying t = some (.slice e)) (hb : P.bytesOf e = 1) (hc : (d = .nil ∧ c = 0) ∨ ∃ el sp, d = .slice el sp ∧ el.length + sp.length = c) : c ≤ 140737488351232 := by
  rcases hc with ⟨_, rfl⟩ | ⟨el, sp, rfl, rfl⟩
  · omega
  · have := sized_slice h ht hd hu
    rw [hb, Nat.mul_one] at this
    exact this
/-- How many bytes the first k hold. -/
def tot (l : Nat → List Nat) : Nat → Nat
  | 0 => 0
  | k + 1 => tot l k + (l k).length
theorem tot_mono {l : Nat → List Nat} {j k : Nat} (h : j ≤ k) : tot l j ≤ tot l k := by
  induction k with
  | zero => have : j = 0 := by omega
            subst this; exact Nat.le_refl _
  | succ k ih =>
    by_cases hj : j = k + 1
    · subst hj; exact Nat.le_refl _
    · have := ih (by omega)
      show tot l j ≤ tot l k + _
      omega
end Gw
end
