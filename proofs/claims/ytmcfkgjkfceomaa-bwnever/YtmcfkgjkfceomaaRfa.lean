/- What the definition's own Mul, Inv and Pow (package shamrockref01) do: the same product, inverse and power. -/
import Derived.Test.YtmcfkgjkfceomaaBase
import Derived.Test.YtmcfkgjkfceomaaMath
import Derived.Test.YtmcfkgjkfceomaaProg
namespace Go.Proofs.Ytmcfkgjkfceomaa
open Go.RowKit Go.Shelf Gw

theorem cl_step (a b k : Nat) (ha : a < 256) (hk : k < 8) (h : b.testBit k = true) : bits .xor .i64 (Gf.clTo a b k : Int) (wrap64 ((a : Int) * 2 ^ k)) = (Gf.clTo a b (k + 1) : Int) := by
  have h1 : a * 2 ^ k < 32768 := by
    calc a * 2 ^ k < 256 * 2 ^ k := Nat.mul_lt_mul_of_pos_right ha (Nat.two_pow_pos k)
      _ ≤ 256 * 2 ^ 7 := Nat.mul_le_mul_left _ (Nat.pow_le_pow_right (by omega) (by omega))
      _ = 32768 := by decide
  have e : (a : Int) * 2 ^ k = ((a * 2 ^ k : Nat) : Int) := by simp
  have h2 := Gf.clTo_lt ha b k (by omega)
  rw [e, wrap64_nat _ (by omega), i64_xor_nat _ _ (by omega) (by omega), Gf.clTo, if_pos h, Nat.shiftLeft_eq]
theorem cl_stay (a b k : Nat) (h : b.testBit k = false) : (Gf.clTo a b k : Int) = (Gf.clTo a b (k + 1) : Int) := by
  rw [Gf.clTo, if_neg (by simp [h])]

theorem red_step (c n : Nat) (hc : c < 32768) (h8 : 8 ≤ n) (h14 : n ≤ 14) (h : (Gf.redTo c (14 - n)).testBit n = true) : bits .xor .i64 (Gf.redTo c (14 - n) : Int) (wrap64 (283 * 2 ^ (n - 8))) = (Gf.redTo c (14 - (n - 1)) : Int) := by
  have h1 : 283 * 2 ^ (n - 8) < 32768 := by
    calc 283 * 2 ^ (n - 8) ≤ 283 * 2 ^ 6 := Nat.mul_le_mul_left _ (Nat.pow_le_pow_right (by omega) (by omega))
      _ < 32768 := by decide
  have e : (283 : Int) * 2 ^ (n - 8) = ((283 * 2 ^ (n - 8) : Nat) : Int) := by simp
  have h2 := Gf.redTo_lt hc (14 - n) (by omega)
  rw [e, wrap64_nat _ (by omega), i64_xor_nat _ _ (by omega) (by omega), show 14 - (n - 1) = (14 - n) + 1 from by omega, Gf.redTo, show 14 - (14 - n) = n from by omega, if_pos h, Nat.shiftLeft_eq, show 6 - (14 - n) = n - 8 from by omega]
theorem red_stay (c n : Nat) (h8 : 8 ≤ n) (h14 : n ≤ 14) (h : (Gf.redTo c (14 - n)).testBit n = false) : (Gf.redTo c (14 - n) : Int) = (Gf.redTo c (14 - (n - 1)) : Int) := by
  rw [show 14 - (n - 1) = (14 - n) + 1 from by omega, Gf.redTo, show 14 - (14 - n) = n from by omega, if_neg (by simp [h])]
theorem pred_val (n : Nat) (h : 1 ≤ n) : Value.int .i64 ((n : Int) - 1) = Value.int .i64 ((n - 1 : Nat) : Int) := by rw [show ((n - 1 : Nat) : Int) = (n : Int) - 1 from by omega]

set_option maxRecDepth 100000 in
set_option maxHeartbeats 1000000 in
theorem rmul_any (a b : Nat) (ha : a < 256) (hb : b < 256) (w : World) :
    Calls Try.prog 26 #[.int .u8 (a : Int), .int .u8 (b : Int)] w fun e w' => e = .returned (.int .u8 (Gf.gm a b : Int)) ∧ w = w' := by
  go_enter Try.func26, Try.ntmps26
  go_wp2
  go_loop [5, 6] (fun p i => ∃ k : Nat, k ≤ 8 ∧ i = .int .i64 (k : Int) ∧ p = .int .i64 (Gf.clTo a b k : Int)) (fun _ i => 8 - (intOf i).toNat)
  case atStart => exact ⟨0, by omega, rfl, rfl⟩
  case round =>
    obtain ⟨k, hk, rfl, rfl⟩ := hrel
    have hbit := i64_bit b k (by omega)
    by_cases hlt : k < 8
    · cases hbt : b.testBit k
      · rw [hbt] at hbit
        have HB := Lib.hid hbt
        clear hbt
        go_wp2
        go_round
        case rel => exact ⟨k + 1, by omega, by go_num, by rw [← cl_stay a b k HB.out]⟩
        case measure => simp [intOf]; omega
      · rw [hbt] at hbit
        have HB := Lib.hid hbt
        clear hbt
        go_wp2
        go_round
        case rel => exact ⟨k + 1, by omega, by go_num, by rw [cl_step a b k ha hlt HB.out]⟩
        case measure => simp [intOf]; omega
    · obtain rfl : k = 8 := by omega
      have hc := Gf.clTo_lt ha b 8 (by omega)
      have hres := Lib.hid (Gf.ref_mul ha hb)
      clear hbit
      generalize Gf.clTo a b 8 = c at hc hres ⊢
      go_wp2
      go_loop [5, 7] (fun p i => ∃ n : Nat, 7 ≤ n ∧ n ≤ 14 ∧ i = .int .i64 (n : Int) ∧ p = .int .i64 (Gf.redTo c (14 - n) : Int)) (fun _ i => (intOf i).toNat)
      case atStart => exact ⟨14, by omega, by omega, rfl, rfl⟩
      case round =>
        obtain ⟨n, h7, h14, rfl, rfl⟩ := hrel
        have hr := Gf.redTo_lt hc (14 - n) (by omega)
        have hbit := i64_bit (Gf.redTo c (14 - n)) n (by omega)
        by_cases hlt : 8 ≤ n
        · cases hbt : (Gf.redTo c (14 - n)).testBit n
          · rw [hbt] at hbit
            have HB := Lib.hid hbt
            clear hbt
            go_wp2
            go_round
            case rel => exact ⟨n - 1, by omega, by omega, pred_val n (by omega), by rw [← red_stay c n hlt h14 HB.out]⟩
            case measure => simp [intOf]; omega
          · rw [hbt] at hbit
            have HB := Lib.hid hbt
            clear hbt
            go_wp2
            go_round
            case rel => exact ⟨n - 1, by omega, by omega, pred_val n (by omega), by rw [red_step c n hc hlt h14 HB.out]⟩
            case measure => simp [intOf]; omega
        · obtain rfl : n = 7 := by omega
          clear hbit
          go_wp2
          go_ret
          exact ⟨ret_int (by rw [hres.out]; have := Gf.gm_lt a b; omega), rfl⟩

def NoInv (a k : Nat) : Prop := ∀ j, 1 ≤ j → j < k → Gf.gm a j ≠ 1
set_option maxRecDepth 100000 in
set_option maxHeartbeats 1000000 in
/-- The inverse by search. -/
theorem rinv_any (a : Nat) (ha : a < 256) (w : World) :
    Calls Try.prog 36 #[.int .u8 (a : Int)] w fun e w' => e = .returned (.int .u8 (Gf.inv a : Int)) ∧ w = w' := by
  go_enter Try.func36, Try.ntmps36
  go_wp2
  go_loop [3] (fun i => ∃ k : Nat, 1 ≤ k ∧ k ≤ 256 ∧ i = .int .i64 (k : Int) ∧ NoInv a k) (fun i => 256 - (intOf i).toNat)
  case atStart => exact ⟨1, by omega, by omega, rfl, fun j h1 h2 => by omega⟩
  case round =>
    obtain ⟨k, hk1, hk2, rfl, hno⟩ := hrel
    by_cases hlt : k < 256
    · by_cases hone : Gf.gm a k = 1
      · have hB : ((Gf.gm a k : Int) == 1) = true := by rw [beq_iff_eq]; omega
        have HI := Lib.hid (Gf.inv_unique ha hlt hone)
        clear hone
        go_wp2_with fail
        refine (rmul_any a k ha hlt _).mono ?_
        rintro e w' ⟨rfl, rfl⟩
        go_wp2
        go_ret
        exact ⟨ret_int (by rw [← HI.out]), rfl⟩
      · have hB : ((Gf.gm a k : Int) == 1) = false := beq_eq_false_iff_ne.2 (by omega)
        have HO := Lib.hid hone
        clear hone
        go_wp2_with fail
        refine (rmul_any a k ha hlt _).mono ?_
        rintro e w' ⟨rfl, rfl⟩
        go_wp2
        go_round
        case rel => exact ⟨k + 1, by omega, by omega, by go_num, fun j h1 h2 => by
          by_cases e : j = k
          · subst e; exact HO.out
          · exact hno j h1 (by omega)⟩
        case measure => simp [intOf]; omega
    · obtain rfl : k = 256 := by omega
      have a0 : a = 0 := Decidable.byContradiction fun a0 => by
        have h0 := Gf.inv_ne a0
        exact hno (Gf.inv a) (by omega) (Gf.inv_lt a) (Gf.gm_inv ha a0)
      subst a0
      go_wp2
      go_ret
      exact ⟨rfl, rfl⟩

end Go.Proofs.Ytmcfkgjkfceomaa
