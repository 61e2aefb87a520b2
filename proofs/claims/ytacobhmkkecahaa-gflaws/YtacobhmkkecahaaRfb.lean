/- What the definition's own Pow (package shamrockref01) does: any power of any byte. -/
import Derived.Test.YtacobhmkkecahaaRfa
namespace Go.Proofs.Ytacobhmkkecahaa
open Go.RowKit Go.Shelf Gw
theorem half_val (n : Nat) (h : n < 9223372036854775808) : wrap64 ((n : Int) / 2) = ((n / 2 : Nat) : Int) := by
  rw [show (n : Int) / 2 = ((n / 2 : Nat) : Int) from by omega, wrap64_nat _ (by omega)]
theorem half_measure (n : Nat) (h0 : 0 < n) {x : Int} (e : x = ((n / 2 : Nat) : Int)) : (intOf (.int .i64 x)).toNat < (intOf (.int .i64 (n : Int))).toNat := by
  subst e; show ((n / 2 : Nat) : Int).toNat < (n : Int).toNat; omega
theorem sq_odd {a n s X : Nat} (ha : a < 256) (hs : s < 256) (h : n % 2 = 1) (hr : Gf.gm s (Gf.gp a n) = X) : Gf.gm (Gf.gm s a) (Gf.gp (Gf.gm a a) (n / 2)) = X := by
  rw [Gf.gp_two_mul ha, ← hr, Gf.gm_assoc hs ha (Gf.gp_lt _ _)]
  congr 1
  have e : n = 2 * (n / 2) + 1 := by omega
  generalize n / 2 = m at e
  subst e
  rw [Gf.gm_comm]; rfl
theorem sq_even {a n s X : Nat} (ha : a < 256) (h : ¬ n % 2 = 1) (hr : Gf.gm s (Gf.gp a n) = X) : Gf.gm s (Gf.gp (Gf.gm a a) (n / 2)) = X := by
  rw [Gf.gp_two_mul ha, ← hr, show 2 * (n / 2) = n from by omega]
set_option maxRecDepth 100000 in
set_option maxHeartbeats 1000000 in
/-- A power whose exponent is above 0, by squares. -/
theorem rpow_pos (A N : Nat) (hA : A < 256) (hN : 0 < N) (hN2 : N < 9223372036854775808) (w : World) :
    Calls Try.prog 16 #[.int .u8 (A : Int), .int .i64 (N : Int)] w fun e w' => e = .returned (.int .u8 (Gf.gp A N : Int)) ∧ w = w' := by
  have h0 : ((N : Int) == 0) = false := beq_eq_false_iff_ne.2 (by omega)
  have h1 : decide ((N : Int) < 0) = false := by simp
  have HN := Lib.hid hN2
  clear hN2
  go_enter Try.func16, Try.ntmps16
  go_wp2
  go_loop [0, 1, 5] (fun x m r => ∃ a n s : Nat, a < 256 ∧ s < 256 ∧ n ≤ N ∧ x = .int .u8 (a : Int) ∧ m = .int .i64 (n : Int) ∧ r = .int .u8 (s : Int) ∧ Gf.gm s (Gf.gp a n) = Gf.gp A N) (fun _ m _ => (intOf m).toNat)
  case atStart => exact ⟨A, N, 1, hA, by omega, Nat.le_refl _, rfl, rfl, rfl, Gf.gm_one_left (Gf.gp_lt _ _)⟩
  case round =>
    obtain ⟨a, n, s, ha, hs, hn, rfl, rfl, rfl, hrel⟩ := hrel
    have HR := Lib.hid hrel
    have HW := Lib.hid (half_val n (Nat.lt_of_le_of_lt hn HN.out))
    clear hrel
    by_cases hlt : 0 < n
    · by_cases hodd : n % 2 = 1
      · have hB : (((n : Int) % 2) == 1) = true := by rw [beq_iff_eq]; omega
        have HO := Lib.hid hodd
        clear hodd
        go_wp2_with fail
        refine (rmul_any s a hs ha _).mono ?_
        rintro e w' ⟨rfl, rfl⟩
        go_wp2_with fail
        refine (rmul_any a a ha ha _).mono ?_
        rintro e w' ⟨rfl, rfl⟩
        go_wp2
        go_round
        case rel => exact ⟨Gf.gm a a, n / 2, Gf.gm s a, Gf.gm_lt _ _, Gf.gm_lt _ _, by omega, rfl, by rw [HW.out], rfl, sq_odd ha hs HO.out HR.out⟩
        case measure => exact half_measure n hlt HW.out
      · have hB : (((n : Int) % 2) == 1) = false := beq_eq_false_iff_ne.2 (by omega)
        have HO := Lib.hid hodd
        clear hodd
        go_wp2_with fail
        refine (rmul_any a a ha ha _).mono ?_
        rintro e w' ⟨rfl, rfl⟩
        go_wp2
        go_round
        case rel => exact ⟨Gf.gm a a, n / 2, s, Gf.gm_lt _ _, hs, by omega, rfl, by rw [HW.out], rfl, sq_even ha HO.out HR.out⟩
        case measure => exact half_measure n hlt HW.out
    · obtain rfl : n = 0 := by omega
      go_wp2
      go_ret
      have := HR.out
      simp only [Gf.gp, Gf.gm_one hs] at this
      exact ⟨ret_int (by rw [← this]), rfl⟩

set_option maxRecDepth 100000 in
set_option maxHeartbeats 1000000 in
/-- Any power. -/
theorem rpow_any (a : Nat) (n : Int) (ha : a < 256) (h1 : -9223372036854775808 ≤ n) (h2 : n < 9223372036854775808) (w : World) :
    Calls Try.prog 16 #[.int .u8 (a : Int), .int .i64 n] w fun e w' => e = .returned (.int .u8 (Gf.gpz a n : Int)) ∧ w = w' := by
  by_cases hp : 0 < n
  · obtain ⟨N, rfl⟩ := Int.eq_ofNat_of_zero_le (Int.le_of_lt hp)
    rw [Gf.gpz_nat ha]
    exact rpow_pos a N ha (by omega) (by omega) w
  clear h1 h2
  by_cases n0 : n = 0
  · subst n0
    go_enter Try.func16, Try.ntmps16
    go_wp2
    go_ret
    exact ⟨rfl, rfl⟩
  have hn : n < 0 := by omega
  have b0 : (n == 0) = false := beq_eq_false_iff_ne.2 n0
  have hz := Lib.hid n0
  clear n0 hp
  by_cases a0 : a = 0
  · subst a0
    go_enter Try.func16, Try.ntmps16
    go_wp2
    go_ret
    exact ⟨ret_int (by unfold Gf.gpz; rw [if_neg hz.out]; rfl), rfl⟩
  · have b1 : ((a : Int) == 0) = false := beq_eq_false_iff_ne.2 (by omega)
    have hres := Lib.hid (Gf.gpz_neg a0 n hn)
    have ht : n.tmod 255 = -((-n) % 255) := by
      have : n.tmod 255 = -((-n).tmod 255) := by rw [Int.neg_tmod]; simp
      rw [this, Int.tmod_eq_emod_of_nonneg (by omega)]
    obtain ⟨k, hk⟩ : ∃ k : Nat, (k : Int) = (-n) % 255 := ⟨((-n) % 255).toNat, by omega⟩
    have e1 : n.tmod 255 = -(k : Int) := by omega
    have hk2 : k < 255 := by omega
    have hres2 := Lib.hid (show Gf.gpz a n = Gf.gp (Gf.inv a) (k + 255) by rw [hres.out, e1]; congr 1; omega)
    clear ht hk hres a0
    go_enter Try.func16, Try.ntmps16
    go_wp2_with fail
    refine (rinv_any a ha _).mono ?_
    rintro e w' ⟨rfl, rfl⟩
    go_wp2_with fail
    rw [show (k : Int) + 255 = ((k + 255 : Nat) : Int) from by omega]
    refine (rpow_pos (Gf.inv a) (k + 255) (Gf.inv_lt a) (by omega) (by omega) _).mono ?_
    rintro e w' ⟨rfl, rfl⟩
    go_wp2
    go_ret
    exact ⟨by rw [hres2.out]; rfl, rfl⟩
end Go.Proofs.Ytacobhmkkecahaa
