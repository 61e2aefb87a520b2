/- What sha's words are turned by: right, and the four sums of turned words. -/
import Derived.Test.YtfemcofjhcanhaaDoorShm
import Derived.Test.YtfemcofjhcanhaaDoorByi
namespace Go.Proofs.YtfemcofjhcanhaaDoor
open Go.RowKit Go.Shelf Gw Pol Sh

theorem neg_and31 (n : Nat) (h0 : 0 < n) (h1 : n < 32) : bits .and .u64 (IntKind.u64.wrap (-(n : Int))) 31 = ((32 - n : Nat) : Int) := by
  have e1 : IntKind.u64.wrap (-(n : Int)) = ((18446744073709551616 - n : Nat) : Int) := by rw [IntKind.wrap_u64]; omega
  rw [e1, show (31 : Int) = ((31 : Nat) : Int) from rfl, u64_and_nat _ _ (by omega) (by omega), show (31 : Nat) = 2 ^ 5 - 1 from rfl, Nat.and_two_pow_sub_one_eq_mod]
  congr 1
  omega
theorem rot_fin (x n : Nat) (hx : x < 4294967296) (h0 : 0 < n) (h1 : n < 32) : bits .or .u32 ((x : Int) * 2 ^ (32 - n) % 4294967296) ((x : Int) / 2 ^ (32 - (32 - n))) = (rr x n : Int) := by
  have e1 : (x : Int) * 2 ^ (32 - n) % 4294967296 = ((x * 2 ^ (32 - n) % 4294967296 : Nat) : Int) := by simp
  have e2 : (x : Int) / 2 ^ (32 - (32 - n)) = ((x / 2 ^ n : Nat) : Int) := by rw [show 32 - (32 - n) = n by omega]; simp
  rw [e1, e2, u32_or_nat _ _ (Nat.mod_lt _ (by omega)) (div_lt hx), rr_or hx h0 h1]
set_option maxRecDepth 100000 in
set_option maxHeartbeats 400000 in
theorem rot_any (x n : Nat) (hx : x < 4294967296) (h0 : 0 < n) (h1 : n < 32) (w : World) :
    Calls Tryd.prog 27 #[.int .u32 (x : Int), .int .i64 (-(n : Int))] w fun e w' => e = .returned (.int .u32 (rr x n : Int)) ∧ w = w' := by
  have h31 := neg_and31 n h0 h1
  obtain ⟨s, hs⟩ : ∃ s, s = 32 - n := ⟨_, rfl⟩
  rw [← hs] at h31
  have hs0 : 0 < s := by omega
  have hs1 : s < 32 := by omega
  have hsn : (32 : Int) - (s : Int) = (n : Int) := by omega
  go_enter Tryd.func27, Tryd.ntmps27
  go_wp2
  go_ret
  exact ⟨by rw [rot_fin x n hx h0 h1]; rfl, rfl⟩
set_option maxRecDepth 100000 in
set_option maxHeartbeats 400000 in
theorem right_any (x n : Nat) (hx : x < 4294967296) (h0 : 0 < n) (h1 : n < 32) (w : World) :
    Calls Tryd.prog 26 #[.int .u32 (x : Int), .int .i64 (n : Int)] w fun e w' => e = .returned (.int .u32 (rr x n : Int)) ∧ w = w' := by
  go_enter Tryd.func26, Tryd.ntmps26
  go_wp2_with fail
  refine (rot_any x n hx h0 h1 _).mono ?_
  rintro e w1 ⟨rfl, rfl⟩
  go_wp2
  go_ret
  exact ⟨rfl, rfl⟩
set_option maxRecDepth 100000 in
set_option maxHeartbeats 400000 in
theorem s0_any (x : Nat) (hx : x < 4294967296) (w : World) :
    Calls Tryd.prog 25 #[.int .u32 (x : Int)] w fun e w' => e = .returned (.int .u32 (s0 x : Int)) ∧ w = w' := by
  have h1 : bits .xor .u32 (rr x 7 : Int) (rr x 18 : Int) = ((rr x 7 ^^^ rr x 18 : Nat) : Int) := u32_xor_nat _ _ (rr_lt hx (by omega) (by omega)) (rr_lt hx (by omega) (by omega))
  have h2 : bits .xor .u32 ((rr x 7 ^^^ rr x 18 : Nat) : Int) ((x : Int) / 8) = (s0 x : Int) := (u32_xor_nat _ (x / 8) (xor_lt (rr_lt hx (by omega) (by omega)) (rr_lt hx (by omega) (by omega))) (div_lt hx))
  go_enter Tryd.func25, Tryd.ntmps25
  go_wp2_with fail
  refine (right_any x 7 hx (by omega) (by omega) _).mono ?_
  rintro e w1 ⟨rfl, rfl⟩
  go_wp2_with fail
  refine (right_any x 18 hx (by omega) (by omega) _).mono ?_
  rintro e w1 ⟨rfl, rfl⟩
  go_wp2
  go_ret
  exact ⟨rfl, rfl⟩
set_option maxRecDepth 100000 in
set_option maxHeartbeats 400000 in
theorem s1_any (x : Nat) (hx : x < 4294967296) (w : World) :
    Calls Tryd.prog 24 #[.int .u32 (x : Int)] w fun e w' => e = .returned (.int .u32 (s1 x : Int)) ∧ w = w' := by
  have h1 : bits .xor .u32 (rr x 17 : Int) (rr x 19 : Int) = ((rr x 17 ^^^ rr x 19 : Nat) : Int) := u32_xor_nat _ _ (rr_lt hx (by omega) (by omega)) (rr_lt hx (by omega) (by omega))
  have h2 : bits .xor .u32 ((rr x 17 ^^^ rr x 19 : Nat) : Int) ((x : Int) / 1024) = (s1 x : Int) := (u32_xor_nat _ (x / 1024) (xor_lt (rr_lt hx (by omega) (by omega)) (rr_lt hx (by omega) (by omega))) (div_lt hx))
  go_enter Tryd.func24, Tryd.ntmps24
  go_wp2_with fail
  refine (right_any x 17 hx (by omega) (by omega) _).mono ?_
  rintro e w1 ⟨rfl, rfl⟩
  go_wp2_with fail
  refine (right_any x 19 hx (by omega) (by omega) _).mono ?_
  rintro e w1 ⟨rfl, rfl⟩
  go_wp2
  go_ret
  exact ⟨rfl, rfl⟩
set_option maxRecDepth 100000 in
set_option maxHeartbeats 400000 in
theorem S0_any (x : Nat) (hx : x < 4294967296) (w : World) :
    Calls Tryd.prog 23 #[.int .u32 (x : Int)] w fun e w' => e = .returned (.int .u32 (S0 x : Int)) ∧ w = w' := by
  have h1 : bits .xor .u32 (rr x 2 : Int) (rr x 13 : Int) = ((rr x 2 ^^^ rr x 13 : Nat) : Int) := u32_xor_nat _ _ (rr_lt hx (by omega) (by omega)) (rr_lt hx (by omega) (by omega))
  have h2 : bits .xor .u32 ((rr x 2 ^^^ rr x 13 : Nat) : Int) (rr x 22 : Int) = (S0 x : Int) := u32_xor_nat _ _ (xor_lt (rr_lt hx (by omega) (by omega)) (rr_lt hx (by omega) (by omega))) (rr_lt hx (by omega) (by omega))
  go_enter Tryd.func23, Tryd.ntmps23
  go_wp2_with fail
  refine (right_any x 2 hx (by omega) (by omega) _).mono ?_
  rintro e w1 ⟨rfl, rfl⟩
  go_wp2_with fail
  refine (right_any x 13 hx (by omega) (by omega) _).mono ?_
  rintro e w1 ⟨rfl, rfl⟩
  go_wp2_with fail
  refine (right_any x 22 hx (by omega) (by omega) _).mono ?_
  rintro e w1 ⟨rfl, rfl⟩
  go_wp2
  go_ret
  exact ⟨rfl, rfl⟩
set_option maxRecDepth 100000 in
set_option maxHeartbeats 400000 in
theorem S1_any (x : Nat) (hx : x < 4294967296) (w : World) :
    Calls Tryd.prog 22 #[.int .u32 (x : Int)] w fun e w' => e = .returned (.int .u32 (S1 x : Int)) ∧ w = w' := by
  have h1 : bits .xor .u32 (rr x 6 : Int) (rr x 11 : Int) = ((rr x 6 ^^^ rr x 11 : Nat) : Int) := u32_xor_nat _ _ (rr_lt hx (by omega) (by omega)) (rr_lt hx (by omega) (by omega))
  have h2 : bits .xor .u32 ((rr x 6 ^^^ rr x 11 : Nat) : Int) (rr x 25 : Int) = (S1 x : Int) := u32_xor_nat _ _ (xor_lt (rr_lt hx (by omega) (by omega)) (rr_lt hx (by omega) (by omega))) (rr_lt hx (by omega) (by omega))
  go_enter Tryd.func22, Tryd.ntmps22
  go_wp2_with fail
  refine (right_any x 6 hx (by omega) (by omega) _).mono ?_
  rintro e w1 ⟨rfl, rfl⟩
  go_wp2_with fail
  refine (right_any x 11 hx (by omega) (by omega) _).mono ?_
  rintro e w1 ⟨rfl, rfl⟩
  go_wp2_with fail
  refine (right_any x 25 hx (by omega) (by omega) _).mono ?_
  rintro e w1 ⟨rfl, rfl⟩
  go_wp2
  go_ret
  exact ⟨rfl, rfl⟩
end Go.Proofs.YtfemcofjhcanhaaDoor
