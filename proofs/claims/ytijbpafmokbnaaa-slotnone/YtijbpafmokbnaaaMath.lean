/- The field of 256 elements in plain numbers: the double, the powers of x + 1, their logarithms, the product by logarithms and bit by bit, inverses and powers; no program is named here. -/
namespace Gf

/-- x times a. -/
def dbl (a : Nat) : Nat := (a <<< 1) ^^^ (if a.testBit 7 then 283 else 0)
/-- (x + 1) times a. -/
def tri (a : Nat) : Nat := a ^^^ dbl a
/-- The powers of x + 1. -/
def pw : Nat → Nat
  | 0 => 1
  | n + 1 => tri (pw n)
/-- What the table of logarithms holds at a behind k rounds. -/
def lgTo : Nat → Nat → Nat
  | 0, _ => 0
  | k + 1, a => if a = pw k then k else lgTo k a
def lg (a : Nat) : Nat := lgTo 255 a

def lgL : List Nat := [0, 0, 25, 1, 50, 2, 26, 198, 75, 199, 27, 104, 51, 238, 223, 3, 100, 4, 224, 14, 52, 141, 129, 239, 76, 113, 8, 200, 248, 105, 28, 193, 125, 194, 29, 181, 249, 185, 39, 106, 77, 228, 166, 114, 154, 201, 9, 120, 101, 47, 138, 5, 33, 15, 225, 36, 18, 240, 130, 69, 53, 147, 218, 142, 150, 143, 219, 189, 54, 208, 206, 148, 19, 92, 210, 241, 64, 70, 131, 56, 102, 221, 253, 48, 191, 6, 139, 98, 179, 37, 226, 152, 34, 136, 145, 16, 126, 110, 72, 195, 163, 182, 30, 66, 58, 107, 40, 84, 250, 133, 61, 186, 43, 121, 10, 21, 155, 159, 94, 202, 78, 212, 172, 229, 243, 115, 167, 87, 175, 88, 168, 80, 244, 234, 214, 116, 79, 174, 233, 213, 231, 230, 173, 232, 44, 215, 117, 122, 235, 22, 11, 245, 89, 203, 95, 176, 156, 169, 81, 160, 127, 12, 246, 111, 23, 196, 73, 236, 216, 67, 31, 45, 164, 118, 123, 183, 204, 187, 62, 90, 251, 96, 177, 134, 59, 82, 161, 108, 170, 85, 41, 157, 151, 178, 135, 144, 97, 190, 220, 252, 188, 149, 207, 205, 55, 63, 91, 209, 83, 57, 132, 60, 65, 162, 109, 71, 20, 42, 158, 93, 86, 242, 211, 171, 68, 17, 146, 217, 35, 32, 46, 137, 180, 124, 184, 38, 119, 153, 227, 165, 103, 74, 237, 222, 197, 49, 254, 24, 13, 99, 140, 128, 192, 247, 112, 7]

set_option maxRecDepth 100000 in
theorem lgL_pw : ∀ i, i < 255 → lgL.getD (pw i) 0 = i := by decide +kernel
set_option maxRecDepth 100000 in
theorem pw_lgL : ∀ a, a < 256 → a ≠ 0 → pw (lgL.getD a 0) = a ∧ lgL.getD a 0 < 255 := by decide +kernel
theorem pw_255 : pw 255 = 1 := by decide +kernel

theorem dbl_lt_small : ∀ a, a < 256 → dbl a < 256 := by decide +kernel
theorem tri_lt_small : ∀ a, a < 256 → tri a < 256 := by decide +kernel
theorem tri_ne_small : ∀ a, a < 256 → a ≠ 0 → tri a ≠ 0 := by decide +kernel

theorem pw_lt (n : Nat) : pw n < 256 := by
  induction n with
  | zero => decide
  | succ n ih => exact tri_lt_small _ ih
theorem pw_ne (n : Nat) : pw n ≠ 0 := by
  induction n with
  | zero => decide
  | succ n ih => exact tri_ne_small _ (pw_lt n) ih
theorem pw_inj {i j : Nat} (hi : i < 255) (hj : j < 255) (h : pw i = pw j) : i = j := by
  have a := lgL_pw i hi; have b := lgL_pw j hj; rw [h] at a; omega
theorem pw_add255 (n : Nat) : pw (n + 255) = pw n := by
  induction n with
  | zero => rw [Nat.zero_add, pw_255]; rfl
  | succ n ih =>
    have : n + 1 + 255 = (n + 255) + 1 := by omega
    rw [this]; show tri (pw (n + 255)) = tri (pw n); rw [ih]
theorem pw_mul255 (n k : Nat) : pw (n + 255 * k) = pw n := by
  induction k with
  | zero => rfl
  | succ k ih => rw [Nat.mul_succ, ← Nat.add_assoc, pw_add255, ih]
theorem pw_mod (n : Nat) : pw (n % 255) = pw n := by
  have := pw_mul255 (n % 255) (n / 255)
  rw [Nat.mod_add_div] at this; exact this.symm
theorem pw_congr {m n : Nat} (h : m % 255 = n % 255) : pw m = pw n := by
  rw [← pw_mod m, ← pw_mod n, h]

theorem lgTo_pw {k i : Nat} (hk : k ≤ 255) (hi : i < k) : lgTo k (pw i) = i := by
  induction k with
  | zero => omega
  | succ k ih =>
    unfold lgTo
    by_cases h : pw i = pw k
    · rw [if_pos h]; exact (pw_inj (by omega) (by omega) h).symm
    · rw [if_neg h]
      have e : i ≠ k := fun e => h (by rw [e])
      exact ih (by omega) (by omega)
theorem lg_pw {i : Nat} (hi : i < 255) : lg (pw i) = i := lgTo_pw (Nat.le_refl _) hi
theorem lg_eq {a : Nat} (h : a < 256) (h0 : a ≠ 0) : lg a = lgL.getD a 0 := by
  have := pw_lgL a h h0
  calc lg a = lg (pw (lgL.getD a 0)) := by rw [this.1]
    _ = lgL.getD a 0 := lg_pw this.2
theorem pw_lg {a : Nat} (h : a < 256) (h0 : a ≠ 0) : pw (lg a) = a := by rw [lg_eq h h0]; exact (pw_lgL a h h0).1
theorem lg_lt {a : Nat} (h : a < 256) (h0 : a ≠ 0) : lg a < 255 := by rw [lg_eq h h0]; exact (pw_lgL a h h0).2
theorem lgTo_lt (k a : Nat) (hk : k ≤ 255) : lgTo k a < 255 := by
  induction k with
  | zero => simp [lgTo]
  | succ k ih =>
    unfold lgTo; split
    · omega
    · exact ih (by omega)
theorem lg_lt' (a : Nat) : lg a < 255 := lgTo_lt 255 a (Nat.le_refl _)
theorem lg_one : lg 1 = 0 := lg_pw (i := 0) (by omega)
theorem lg_mod (n : Nat) : lg (pw n) = n % 255 := by rw [← pw_mod n]; exact lg_pw (Nat.mod_lt _ (by omega))

/-- The product, by logarithms. -/
def gm (a b : Nat) : Nat := if a = 0 ∨ b = 0 then 0 else pw ((lg a + lg b) % 255)

theorem gm_zero_left (b : Nat) : gm 0 b = 0 := by simp [gm]
theorem gm_zero_right (a : Nat) : gm a 0 = 0 := by simp [gm]
theorem gm_lt (a b : Nat) : gm a b < 256 := by
  unfold gm; split
  · omega
  · exact pw_lt _
theorem gm_pw (i j : Nat) : gm (pw i) (pw j) = pw (i + j) := by
  unfold gm; rw [if_neg (by simp [pw_ne]), lg_mod, lg_mod]; exact pw_congr (by omega)
theorem gm_ne {a b : Nat} (ha : a ≠ 0) (hb : b ≠ 0) : gm a b ≠ 0 := by
  unfold gm; rw [if_neg (by simp [ha, hb])]; exact pw_ne _
theorem gm_eq_zero {a b : Nat} : gm a b = 0 ↔ a = 0 ∨ b = 0 := by
  constructor
  · intro h; by_cases ha : a = 0
    · exact .inl ha
    · by_cases hb : b = 0
      · exact .inr hb
      · exact absurd h (gm_ne ha hb)
  · rintro (h | h) <;> subst h <;> simp [gm]
theorem gm_comm (a b : Nat) : gm a b = gm b a := by
  unfold gm
  by_cases ha : a = 0
  · simp [ha]
  · by_cases hb : b = 0
    · simp [hb]
    · simp [ha, hb, Nat.add_comm]
theorem ex_pw {a : Nat} (h : a < 256) (h0 : a ≠ 0) : ∃ i, i < 255 ∧ a = pw i := ⟨lg a, lg_lt h h0, (pw_lg h h0).symm⟩
theorem gm_assoc {a b c : Nat} (ha : a < 256) (hb : b < 256) (hc : c < 256) : gm (gm a b) c = gm a (gm b c) := by
  by_cases a0 : a = 0
  · subst a0; simp [gm]
  by_cases b0 : b = 0
  · subst b0; simp [gm]
  by_cases c0 : c = 0
  · subst c0; simp [gm]
  obtain ⟨i, _, rfl⟩ := ex_pw ha a0
  obtain ⟨j, _, rfl⟩ := ex_pw hb b0
  obtain ⟨k, _, rfl⟩ := ex_pw hc c0
  simp only [gm_pw, Nat.add_assoc]
theorem gm_one {a : Nat} (h : a < 256) : gm a 1 = a := by
  by_cases a0 : a = 0
  · subst a0; simp [gm]
  obtain ⟨i, _, rfl⟩ := ex_pw h a0
  exact gm_pw i 0
theorem gm_one_left {a : Nat} (h : a < 256) : gm 1 a = a := by rw [gm_comm]; exact gm_one h

/-! The product bit by bit. -/
theorem shl_xor (a b i : Nat) : (a ^^^ b) <<< i = (a <<< i) ^^^ (b <<< i) := Nat.shiftLeft_xor_distrib
theorem xor4 (a b c d : Nat) : (a ^^^ b) ^^^ (c ^^^ d) = (a ^^^ c) ^^^ (b ^^^ d) := by
  rw [Nat.xor_assoc, ← Nat.xor_assoc b c d, Nat.xor_comm b c, Nat.xor_assoc c b d, ← Nat.xor_assoc]
theorem dbl_xor (a b : Nat) : dbl (a ^^^ b) = dbl a ^^^ dbl b := by
  unfold dbl; rw [shl_xor, Nat.testBit_xor]
  rw [xor4]
  cases a.testBit 7 <;> cases b.testBit 7 <;> simp
def dblN : Nat → Nat → Nat
  | 0, a => a
  | k + 1, a => dbl (dblN k a)
theorem dblN_xor (k a b : Nat) : dblN k (a ^^^ b) = dblN k a ^^^ dblN k b := by
  induction k with
  | zero => rfl
  | succ k ih => simp only [dblN, ih, dbl_xor]
theorem dblN_dbl (k a : Nat) : dblN k (dbl a) = dbl (dblN k a) := by
  induction k with
  | zero => rfl
  | succ k ih => simp only [dblN, ih]
theorem dbl_zero : dbl 0 = 0 := by decide
/-- The sum of x^i a over the bits i of b below k. -/
def bmTo (a b : Nat) : Nat → Nat
  | 0 => 0
  | k + 1 => bmTo a b k ^^^ (if b.testBit k then dblN k a else 0)
def bm (a b : Nat) : Nat := bmTo a b 8
theorem bmTo_xor_right (a b c k : Nat) : bmTo a (b ^^^ c) k = bmTo a b k ^^^ bmTo a c k := by
  induction k with
  | zero => simp [bmTo]
  | succ k ih =>
    simp only [bmTo, ih, Nat.testBit_xor]
    rw [xor4]
    cases b.testBit k <;> cases c.testBit k <;> simp
theorem bmTo_xor_left (a b c k : Nat) : bmTo (a ^^^ b) c k = bmTo a c k ^^^ bmTo b c k := by
  induction k with
  | zero => simp [bmTo]
  | succ k ih =>
    simp only [bmTo, ih, dblN_xor]
    rw [xor4]
    cases c.testBit k <;> simp
theorem bmTo_dbl (a b k : Nat) : bmTo (dbl a) b k = dbl (bmTo a b k) := by
  induction k with
  | zero => simp [bmTo, dbl_zero]
  | succ k ih =>
    simp only [bmTo, ih, dblN_dbl, dbl_xor]
    cases b.testBit k <;> simp [dbl_zero]
theorem bm_tri (a b : Nat) : bm (tri a) b = tri (bm a b) := by
  unfold bm tri; rw [bmTo_xor_left, bmTo_dbl]
theorem bm_one_left : ∀ b, b < 256 → bm 1 b = b := by decide +kernel
theorem bm_pw (i j : Nat) : bm (pw i) (pw j) = pw (i + j) := by
  induction i with
  | zero => rw [Nat.zero_add]; exact bm_one_left _ (pw_lt j)
  | succ i ih => rw [show i + 1 + j = (i + j) + 1 from by omega]; show bm (tri (pw i)) (pw j) = tri (pw (i + j)); rw [bm_tri, ih]
theorem bmTo_zero_right (a k : Nat) : bmTo a 0 k = 0 := by
  induction k with
  | zero => rfl
  | succ k ih => simp [bmTo, ih]
theorem dblN_zero (k : Nat) : dblN k 0 = 0 := by
  induction k with
  | zero => rfl
  | succ k ih => simp [dblN, ih, dbl_zero]
theorem bmTo_zero_left (b k : Nat) : bmTo 0 b k = 0 := by
  induction k with
  | zero => rfl
  | succ k ih => simp [bmTo, ih, dblN_zero]
theorem gm_eq_bm {a b : Nat} (ha : a < 256) (hb : b < 256) : gm a b = bm a b := by
  by_cases a0 : a = 0
  · subst a0; rw [gm_zero_left]; exact (bmTo_zero_left b 8).symm
  by_cases b0 : b = 0
  · subst b0; rw [gm_zero_right]; exact (bmTo_zero_right a 8).symm
  obtain ⟨i, _, rfl⟩ := ex_pw ha a0
  obtain ⟨j, _, rfl⟩ := ex_pw hb b0
  rw [gm_pw, bm_pw]
theorem xor_lt {a b : Nat} (ha : a < 256) (hb : b < 256) : a ^^^ b < 256 := Nat.xor_lt_two_pow (n := 8) ha hb
theorem gm_xor_right {a b c : Nat} (ha : a < 256) (hb : b < 256) (hc : c < 256) : gm a (b ^^^ c) = gm a b ^^^ gm a c := by
  rw [gm_eq_bm ha (xor_lt hb hc), gm_eq_bm ha hb, gm_eq_bm ha hc]; exact bmTo_xor_right a b c 8
theorem gm_xor_left {a b c : Nat} (ha : a < 256) (hb : b < 256) (hc : c < 256) : gm (a ^^^ b) c = gm a c ^^^ gm b c := by
  rw [gm_comm, gm_xor_right hc ha hb, gm_comm c a, gm_comm c b]

/-! The product as the definition has it: all bits first, then what is too great is taken off. -/
def clTo (a b : Nat) : Nat → Nat
  | 0 => 0
  | k + 1 => if b.testBit k then clTo a b k ^^^ (a <<< k) else clTo a b k
def redTo (p : Nat) : Nat → Nat
  | 0 => p
  | j + 1 => if (redTo p j).testBit (14 - j) then redTo p j ^^^ (283 <<< (6 - j)) else redTo p j
theorem redTo_xor (p q j : Nat) : redTo (p ^^^ q) j = redTo p j ^^^ redTo q j := by
  induction j with
  | zero => rfl
  | succ j ih =>
    simp only [redTo, ih, Nat.testBit_xor]
    generalize redTo p j = x
    generalize redTo q j = y
    cases x.testBit (14 - j) <;> cases y.testBit (14 - j) <;> simp
    · rw [Nat.xor_assoc]
    · rw [Nat.xor_assoc, Nat.xor_comm y, ← Nat.xor_assoc]
    · rw [xor4]; simp
theorem redTo_zero : ∀ j, j < 8 → redTo 0 j = 0 := by decide +kernel
theorem red_shl : ∀ k, k < 8 → ∀ a, a < 256 → redTo (a <<< k) 7 = dblN k a := by decide +kernel
theorem red_clTo {a b : Nat} (ha : a < 256) (k : Nat) (hk : k ≤ 8) : redTo (clTo a b k) 7 = bmTo a b k := by
  induction k with
  | zero => exact redTo_zero 7 (by omega)
  | succ k ih =>
    simp only [clTo, bmTo]
    cases b.testBit k
    · simpa using ih (by omega)
    · simp only [if_true]; rw [redTo_xor, ih (by omega), red_shl k (by omega) a ha]
theorem ref_mul {a b : Nat} (ha : a < 256) (hb : b < 256) : redTo (clTo a b 8) 7 = gm a b := by
  rw [gm_eq_bm ha hb]; exact red_clTo ha 8 (Nat.le_refl _)
theorem clTo_lt {a : Nat} (ha : a < 256) (b k : Nat) (hk : k ≤ 8) : clTo a b k < 32768 := by
  induction k with
  | zero => simp [clTo]
  | succ k ih =>
    have h1 : a <<< k < 2 ^ 15 := by
      rw [Nat.shiftLeft_eq]
      calc a * 2 ^ k < 256 * 2 ^ k := Nat.mul_lt_mul_of_pos_right ha (Nat.two_pow_pos k)
        _ ≤ 256 * 2 ^ 7 := Nat.mul_le_mul_left _ (Nat.pow_le_pow_right (by omega) (by omega))
        _ = 2 ^ 15 := by decide
    unfold clTo; split
    · exact Nat.xor_lt_two_pow (n := 15) (ih (by omega)) h1
    · exact ih (by omega)
theorem redTo_lt {p : Nat} (hp : p < 32768) (j : Nat) (hj : j ≤ 7) : redTo p j < 32768 := by
  induction j with
  | zero => exact hp
  | succ j ih =>
    have h1 : 283 <<< (6 - j) < 2 ^ 15 := by
      rw [Nat.shiftLeft_eq]
      calc 283 * 2 ^ (6 - j) ≤ 283 * 2 ^ 6 := Nat.mul_le_mul_left _ (Nat.pow_le_pow_right (by omega) (by omega))
        _ < 2 ^ 15 := by decide
    unfold redTo; split
    · exact Nat.xor_lt_two_pow (n := 15) (ih (by omega)) h1
    · exact ih (by omega)

/-! Inverses, quotients, powers. -/
def inv (a : Nat) : Nat := if a = 0 then 0 else pw ((255 - lg a) % 255)
theorem inv_lt (a : Nat) : inv a < 256 := by
  unfold inv; split
  · omega
  · exact pw_lt _
theorem inv_ne {a : Nat} (h : a ≠ 0) : inv a ≠ 0 := by unfold inv; rw [if_neg h]; exact pw_ne _
theorem gm_inv {a : Nat} (h : a < 256) (h0 : a ≠ 0) : gm a (inv a) = 1 := by
  obtain ⟨i, hi, rfl⟩ := ex_pw h h0
  unfold inv; rw [if_neg h0, lg_pw hi, gm_pw]
  exact pw_congr (n := 0) (by omega)
theorem inv_unique {a b : Nat} (ha : a < 256) (hb : b < 256) (h : gm a b = 1) : b = inv a := by
  have a0 : a ≠ 0 := by rintro rfl; simp [gm] at h
  calc b = gm 1 b := (gm_one_left hb).symm
    _ = gm (gm (inv a) a) b := by rw [gm_comm (inv a), gm_inv ha a0]
    _ = gm (inv a) (gm a b) := gm_assoc (inv_lt a) ha hb
    _ = inv a := by rw [h, gm_one (inv_lt a)]
def dv (a b : Nat) : Nat := gm a (inv b)
theorem dv_eq {a b : Nat} (ha : a ≠ 0) (hb : b ≠ 0) : dv a b = pw ((lg a + 255 - lg b) % 255) := by
  unfold dv gm; rw [if_neg (by simp [ha, inv_ne hb])]
  unfold inv; rw [if_neg hb, lg_mod]
  have := lg_lt' b
  exact pw_congr (by omega)
theorem gm_cancel {a b c : Nat} (ha : a < 256) (hb : b < 256) (hc : c < 256) (c0 : c ≠ 0) (h : gm a c = gm b c) : a = b := by
  have e : ∀ x, x < 256 → gm (gm x c) (inv c) = x := fun x hx => by rw [gm_assoc hx hc (inv_lt c), gm_inv hc c0, gm_one hx]
  rw [← e a ha, ← e b hb, h]
theorem dv_gm {a c : Nat} (ha : a < 256) (hc : c < 256) (c0 : c ≠ 0) : dv (gm a c) c = a := by
  unfold dv; rw [gm_assoc ha hc (inv_lt c), gm_inv hc c0, gm_one ha]
theorem gm_dv {a b : Nat} (ha : a < 256) (hb : b < 256) (b0 : b ≠ 0) : gm (dv a b) b = a := by
  unfold dv; rw [gm_assoc ha (inv_lt b) hb, gm_comm (inv b), gm_inv hb b0, gm_one ha]

def gp (a : Nat) : Nat → Nat
  | 0 => 1
  | n + 1 => gm (gp a n) a
theorem gp_lt (a n : Nat) : gp a n < 256 := by
  cases n with
  | zero => exact (by decide : 1 < 256)
  | succ n => exact gm_lt _ _
theorem gp_pw (i n : Nat) : gp (pw i) n = pw (i * n) := by
  induction n with
  | zero => rfl
  | succ n ih => simp only [gp, ih, gm_pw, Nat.mul_succ]
theorem gp_zero {n : Nat} (h : n ≠ 0) : gp 0 n = 0 := by
  cases n with
  | zero => exact absurd rfl h
  | succ n => simp [gp, gm]
theorem gp_add {a : Nat} (ha : a < 256) (m n : Nat) : gp a (m + n) = gm (gp a m) (gp a n) := by
  induction n with
  | zero => simp [gp, gm_one (gp_lt a m)]
  | succ n ih => rw [← Nat.add_assoc]; simp only [gp, ih]; rw [gm_assoc (gp_lt _ _) (gp_lt _ _) ha]
theorem gp_two_mul {a : Nat} (ha : a < 256) (n : Nat) : gp (gm a a) n = gp a (2 * n) := by
  induction n with
  | zero => rfl
  | succ n ih =>
    have : gp a (2 * (n + 1)) = gm (gp a (2 * n)) (gm a a) := by
      rw [Nat.mul_succ, gp_add ha]; congr 1; simp [gp, gm_one_left ha]
    rw [this]; simp only [gp, ih]
/-- A power whose exponent may be below 0; of 0 then 0. -/
def gpz (a : Nat) (n : Int) : Nat := if n = 0 then 1 else if a = 0 then 0 else pw (lg a * (n % 255).toNat % 255)
theorem gpz_lt (a : Nat) (n : Int) : gpz a n < 256 := by
  unfold gpz; split
  · omega
  · split
    · omega
    · exact pw_lt _
theorem mul_mod255 (a b : Nat) : a * (b % 255) % 255 = a * b % 255 := by rw [Nat.mul_mod, Nat.mod_mod, ← Nat.mul_mod]
theorem gpz_nat {a : Nat} (ha : a < 256) (n : Nat) : gpz a (n : Int) = gp a n := by
  unfold gpz
  by_cases h : n = 0
  · subst h; rfl
  rw [if_neg (by omega)]
  by_cases a0 : a = 0
  · rw [if_pos a0, a0, gp_zero h]
  rw [if_neg a0, show ((n : Int) % 255).toNat = n % 255 from by omega, mul_mod255, pw_mod, ← gp_pw, pw_lg ha a0]
theorem gpz_add {a : Nat} (_ha : a < 256) (a0 : a ≠ 0) (m n : Int) : gm (gpz a m) (gpz a n) = gpz a (m + n) := by
  have e : ∀ k : Int, gpz a k = pw (lg a * (k % 255).toNat) := fun k => by
    unfold gpz
    by_cases h : k = 0
    · subst h; simp [pw]
    · rw [if_neg h, if_neg a0, pw_mod]
  rw [e, e, e, gm_pw, ← Nat.mul_add]
  have : (m % 255).toNat + (n % 255).toNat = ((m + n) % 255).toNat + 255 * (((m % 255).toNat + (n % 255).toNat) / 255) := by omega
  rw [this, Nat.mul_add, Nat.mul_left_comm, pw_mul255]
theorem gpz_neg {a : Nat} (a0 : a ≠ 0) (n : Int) (hn : n < 0) : gpz a n = gp (inv a) (255 - (n.tmod 255)).toNat := by
  have e : n.tmod 255 = -((-n) % 255) := by
    have : n.tmod 255 = -((-n).tmod 255) := by rw [Int.neg_tmod]; simp
    rw [this, Int.tmod_eq_emod_of_nonneg (by omega)]
  unfold gpz inv
  rw [if_neg (by omega), if_neg a0, if_neg a0, gp_pw]
  have hl := lg_lt' a
  generalize hk : (-n) % 255 = k at e
  have hk0 : 0 ≤ k := by omega
  have hk1 : k < 255 := by omega
  obtain ⟨j, rfl⟩ := Int.eq_ofNat_of_zero_le hk0
  have e1 : (255 - n.tmod 255).toNat = 255 + j := by rw [e]; omega
  have e2 : (n % 255).toNat = (255 - j) % 255 := by omega
  rw [e1, e2, mul_mod255]
  generalize lg a = l at hl
  refine pw_congr ?_
  rw [Nat.mod_mod]
  have h2 : (255 - l) % 255 * (255 + j) % 255 = (255 - l) * j % 255 := by
    rw [Nat.mul_mod, Nat.mod_mod, ← Nat.mul_mod, Nat.mul_add, Nat.add_comm, Nat.add_mul_mod_self_right]
  rw [h2]
  have hj : j ≤ 255 := by omega
  have h3 : l * (255 - j) + l * j = 255 * l := by rw [← Nat.mul_add, show 255 - j + j = 255 from by omega, Nat.mul_comm]
  have h4 : (255 - l) * j + l * j = 255 * j := by rw [← Nat.add_mul, show 255 - l + l = 255 from by omega]
  generalize l * (255 - j) = x at h3 ⊢
  generalize (255 - l) * j = y at h4 ⊢
  generalize l * j = z at h3 h4
  omega
end Gf
