/- What Pow of a field that New made does: any power of any byte; memory stays as it is. -/
import Derived.Test.YtacobhmkkecahaaGfc
namespace Go.Proofs.Ytacobhmkkecahaa
open Go.RowKit Go.Shelf Gw
set_option maxRecDepth 100000 in
set_option maxHeartbeats 1000000 in
theorem pow_pos (b a : Nat) (n : Int) (ha : a < 256) (a0 : a ≠ 0) (hn : 0 < n) (w : World) (hF : IsField w b) :
    Calls Try.prog 15 #[.pointer (some ⟨b, 0, none⟩), .int .u8 (a : Int), .int .i64 n] w fun e w' => e = .returned (.int .u8 (Gf.gpz a n : Int)) ∧ ∃ n, w' = w.drewN n := by
  have h1 : ((a : Int) == 0) = false := beq_eq_false_iff_ne.2 (by omega)
  have h2 : (n == 0) = false := beq_eq_false_iff_ne.2 (by omega)
  have l1 := hF.lg ha
  have k1 := Gf.lg_lt' a
  obtain ⟨e, he⟩ : ∃ e : Nat, e = (n % 255).toNat := ⟨_, rfl⟩
  have e1 : n % 255 = (e : Int) := by omega
  have e2 : e < 255 := by omega
  obtain ⟨m, hm⟩ : ∃ m : Nat, m = Gf.lg a * e := ⟨_, rfl⟩
  have m1 : (Gf.lg a : Int) * (e : Int) = (m : Int) := by rw [hm]; simp
  have m2 : m ≤ 254 * 254 := by rw [hm]; exact Nat.mul_le_mul (by omega) (by omega)
  have c1 := hF.ex (i := m % 255) (Nat.mod_lt _ (by omega))
  have hr := Lib.hid (show Gf.gpz a n = Gf.pw (m % 255) by unfold Gf.gpz; rw [if_neg (by omega), if_neg a0, hm, he])
  clear hF he hm
  go_enter Try.func15, Try.ntmps15
  go_wp2
  go_quiet (fail)
  go_wp2
  go_ret
  exact ⟨by rw [hr.out]; rfl, nq, rfl⟩
set_option maxRecDepth 100000 in
set_option maxHeartbeats 1000000 in
theorem pow_neg (b a : Nat) (n : Int) (ha : a < 256) (a0 : a ≠ 0) (hn : n < 0) (w : World) (hF : IsField w b) :
    Calls Try.prog 15 #[.pointer (some ⟨b, 0, none⟩), .int .u8 (a : Int), .int .i64 n] w fun e w' => e = .returned (.int .u8 (Gf.gpz a n : Int)) ∧ ∃ n, w' = w.drewN n := by
  have h1 : ((a : Int) == 0) = false := beq_eq_false_iff_ne.2 (by omega)
  have h2 : (n == 0) = false := beq_eq_false_iff_ne.2 (by omega)
  have l1 := hF.lg ha
  have k1 := Gf.lg_lt' a
  obtain ⟨e, he⟩ : ∃ e : Nat, e = (n % 255).toNat := ⟨_, rfl⟩
  have e2 : e < 255 := by omega
  obtain ⟨m, hm⟩ : ∃ m : Nat, m = Gf.lg a * e := ⟨_, rfl⟩
  have m1 : (Gf.lg a : Int) * (e : Int) = (m : Int) := by rw [hm]; simp
  have m2 : m ≤ 254 * 254 := by rw [hm]; exact Nat.mul_le_mul (by omega) (by omega)
  have c1 := hF.ex (i := m % 255) (Nat.mod_lt _ (by omega))
  have hr := Lib.hid (show Gf.gpz a n = Gf.pw (m % 255) by unfold Gf.gpz; rw [if_neg (by omega), if_neg a0, hm, he])
  have ht : n.tmod 255 = -((-n) % 255) := by
    have : n.tmod 255 = -((-n).tmod 255) := by rw [Int.neg_tmod]; simp
    rw [this, Int.tmod_eq_emod_of_nonneg (by omega)]
  by_cases z : e = 0
  · subst z
    have e1 : n.tmod 255 = 0 := by omega
    have m3 : m = 0 := by simpa using hm
    subst m3
    clear hF he hm ht m1
    go_enter Try.func15, Try.ntmps15
    go_wp2
    go_quiet (fail)
    go_wp2
    go_ret
    exact ⟨by rw [hr.out]; rfl, nq, rfl⟩
  · obtain ⟨k, hk⟩ : ∃ k : Nat, k + e = 255 := ⟨255 - e, by omega⟩
    have e1 : n.tmod 255 = -(k : Int) := by omega
    have e3 : -(k : Int) + 255 = (e : Int) := by omega
    have e4 : -(k : Int) < 0 := by omega
    clear hF he hm ht hk
    go_enter Try.func15, Try.ntmps15
    go_wp2
    go_quiet (fail)
    go_wp2
    go_ret
    exact ⟨by rw [hr.out]; rfl, nq, rfl⟩

set_option maxHeartbeats 400000 in
theorem pow_none (b a : Nat) (w : World) :
    Calls Try.prog 15 #[.pointer (some ⟨b, 0, none⟩), .int .u8 (a : Int), .int .i64 0] w fun e w' => e = .returned (.int .u8 1) ∧ w = w' := by
  go_enter Try.func15, Try.ntmps15
  go_wp2
  go_ret
  exact ⟨rfl, rfl⟩
set_option maxHeartbeats 400000 in
theorem pow_zero (b : Nat) (n : Int) (hn : n ≠ 0) (w : World) :
    Calls Try.prog 15 #[.pointer (some ⟨b, 0, none⟩), .int .u8 0, .int .i64 n] w fun e w' => e = .returned (.int .u8 0) ∧ w = w' := by
  have h2 : (n == 0) = false := beq_eq_false_iff_ne.2 (by omega)
  clear hn
  go_enter Try.func15, Try.ntmps15
  go_wp2
  go_ret
  exact ⟨rfl, rfl⟩
/-- The power. -/
theorem pow_any (b a : Nat) (n : Int) (ha : a < 256) (w : World) (hF : IsField w b) :
    Calls Try.prog 15 #[.pointer (some ⟨b, 0, none⟩), .int .u8 (a : Int), .int .i64 n] w fun e w' => e = .returned (.int .u8 (Gf.gpz a n : Int)) ∧ ∃ n, w' = w.drewN n := by
  by_cases n0 : n = 0
  · subst n0
    refine (pow_none b a w).mono ?_
    rintro e w' ⟨rfl, rfl⟩
    exact ⟨rfl, 0, rfl⟩
  by_cases a0 : a = 0
  · subst a0
    refine (pow_zero b n n0 w).mono ?_
    rintro e w' ⟨rfl, rfl⟩
    exact ⟨by simp [Gf.gpz, n0], 0, rfl⟩
  by_cases h : 0 < n
  · exact pow_pos b a n ha a0 h w hF
  · exact pow_neg b a n ha a0 (by omega) w hF
end Go.Proofs.Ytacobhmkkecahaa
