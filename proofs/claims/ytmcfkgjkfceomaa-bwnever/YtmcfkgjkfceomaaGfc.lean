/- What Mul, Div, Inv and Pow of a field that New made do: product, quotient, inverse and power of bytes; memory stays as it is. -/
import Derived.Test.YtmcfkgjkfceomaaGfb
namespace Go.Proofs.Ytmcfkgjkfceomaa
open Go.RowKit Go.Shelf Gw

/-- Is it not 0? -/
def nz (a : Nat) : Bool := !(a == 0)
theorem nz_pos {a : Nat} (h : a ≠ 0) : nz a = true := by simp [nz, h]
theorem nz_zero : nz 0 = false := rfl

set_option maxHeartbeats 400000 in
theorem mul_zero (b a c : Nat) (w : World) (h : a = 0 ∨ c = 0) :
    Calls Try.prog 50 #[.pointer (some ⟨b, 0, none⟩), .int .u8 (a : Int), .int .u8 (c : Int)] w fun e w' => e = .returned (.int .u8 0) ∧ w = w' := by
  by_cases a0 : a = 0
  · subst a0
    go_enter Try.func50, Try.ntmps50
    go_wp2
    go_ret
    exact ⟨rfl, rfl⟩
  · obtain rfl : c = 0 := by omega
    have h1 : ((a : Int) == 0) = false := beq_eq_false_iff_ne.2 (by omega)
    go_enter Try.func50, Try.ntmps50
    go_wp2
    go_ret
    exact ⟨rfl, rfl⟩

set_option maxRecDepth 100000 in
set_option maxHeartbeats 1000000 in
theorem mul_pos (b a c : Nat) (ha : a < 256) (hc : c < 256) (a0 : a ≠ 0) (c0 : c ≠ 0) (w : World) (hF : IsField w b) :
    Calls Try.prog 50 #[.pointer (some ⟨b, 0, none⟩), .int .u8 (a : Int), .int .u8 (c : Int)] w fun e w' => e = .returned (.int .u8 (Gf.gm a c : Int)) ∧ ∃ n, w' = w.drewN n := by
  have h1 : ((a : Int) == 0) = false := beq_eq_false_iff_ne.2 (by omega)
  have h2 : ((c : Int) == 0) = false := beq_eq_false_iff_ne.2 (by omega)
  have l1 := hF.lg ha
  have l2 := hF.lg hc
  have k1 := Gf.lg_lt' a
  have k2 := Gf.lg_lt' c
  have e1 := hF.ex (i := (Gf.lg a + Gf.lg c) % 255) (Nat.mod_lt _ (by omega))
  have hm := Lib.hid (show Gf.gm a c = Gf.pw ((Gf.lg a + Gf.lg c) % 255) by unfold Gf.gm; rw [if_neg (by omega)])
  clear hF
  go_enter Try.func50, Try.ntmps50
  go_wp2
  go_quiet (fail)
  go_wp2
  go_ret
  exact ⟨by rw [hm.out]; rfl, nq, rfl⟩

/-- The product. -/
theorem mul_any (b a c : Nat) (ha : a < 256) (hc : c < 256) (w : World) (hF : IsField w b) :
    Calls Try.prog 50 #[.pointer (some ⟨b, 0, none⟩), .int .u8 (a : Int), .int .u8 (c : Int)] w fun e w' => e = .returned (.int .u8 (Gf.gm a c : Int)) ∧ ∃ n, w' = w.drewN n := by
  by_cases h : a = 0 ∨ c = 0
  · refine (mul_zero b a c w h).mono ?_
    rintro e w' ⟨rfl, rfl⟩
    exact ⟨by rw [Gf.gm_eq_zero.2 h]; rfl, 0, rfl⟩
  · exact mul_pos b a c ha hc (by omega) (by omega) w hF

set_option maxHeartbeats 400000 in
theorem div_none (b a : Nat) (w : World) :
    Calls Try.prog 41 #[.pointer (some ⟨b, 0, none⟩), .int .u8 (a : Int), .int .u8 0] w fun e w' => e = .returned (.tuple #[.int .u8 0, .bool false]) ∧ w = w' := by
  go_enter Try.func41, Try.ntmps41
  go_wp2
  go_ret2
  exact ⟨rfl, rfl⟩
set_option maxHeartbeats 400000 in
theorem div_zero (b c : Nat) (c0 : c ≠ 0) (w : World) :
    Calls Try.prog 41 #[.pointer (some ⟨b, 0, none⟩), .int .u8 0, .int .u8 (c : Int)] w fun e w' => e = .returned (.tuple #[.int .u8 0, .bool true]) ∧ w = w' := by
  have h2 : ((c : Int) == 0) = false := beq_eq_false_iff_ne.2 (by omega)
  go_enter Try.func41, Try.ntmps41
  go_wp2
  go_ret2
  exact ⟨rfl, rfl⟩
set_option maxRecDepth 100000 in
set_option maxHeartbeats 1000000 in
theorem div_pos (b a c : Nat) (ha : a < 256) (hc : c < 256) (a0 : a ≠ 0) (c0 : c ≠ 0) (w : World) (hF : IsField w b) :
    Calls Try.prog 41 #[.pointer (some ⟨b, 0, none⟩), .int .u8 (a : Int), .int .u8 (c : Int)] w fun e w' => e = .returned (.tuple #[.int .u8 (Gf.dv a c : Int), .bool true]) ∧ ∃ n, w' = w.drewN n := by
  have h1 : ((a : Int) == 0) = false := beq_eq_false_iff_ne.2 (by omega)
  have h2 : ((c : Int) == 0) = false := beq_eq_false_iff_ne.2 (by omega)
  have l1 := hF.lg ha
  have l2 := hF.lg hc
  have k1 := Gf.lg_lt' a
  have k2 := Gf.lg_lt' c
  obtain ⟨d, hd⟩ : ∃ d : Nat, d = Gf.lg a + 255 - Gf.lg c := ⟨_, rfl⟩
  have e1 := hF.ex (i := d % 255) (Nat.mod_lt _ (by omega))
  have hm := Lib.hid (show Gf.dv a c = Gf.pw (d % 255) by rw [Gf.dv_eq a0 c0, hd])
  have hs : (Gf.lg a : Int) + 255 - (Gf.lg c : Int) = (d : Int) := by omega
  clear hF hd
  go_enter Try.func41, Try.ntmps41
  go_wp2
  go_quiet (fail)
  go_wp2
  go_ret2
  exact ⟨by rw [hm.out]; rfl, nq, rfl⟩

/-- The quotient, and that there is one. -/
theorem div_any (b a c : Nat) (ha : a < 256) (hc : c < 256) (w : World) (hF : IsField w b) :
    Calls Try.prog 41 #[.pointer (some ⟨b, 0, none⟩), .int .u8 (a : Int), .int .u8 (c : Int)] w fun e w' => e = .returned (.tuple #[.int .u8 (Gf.dv a c : Int), .bool (nz c)]) ∧ ∃ n, w' = w.drewN n := by
  by_cases c0 : c = 0
  · subst c0
    refine (div_none b a w).mono ?_
    rintro e w' ⟨rfl, rfl⟩
    exact ⟨by simp [Gf.dv, Gf.inv, Gf.gm, nz], 0, rfl⟩
  · by_cases a0 : a = 0
    · subst a0
      refine (div_zero b c c0 w).mono ?_
      rintro e w' ⟨rfl, rfl⟩
      exact ⟨by simp [Gf.dv, Gf.gm, nz_pos c0], 0, rfl⟩
    · refine (div_pos b a c ha hc a0 c0 w hF).mono ?_
      rintro e w' ⟨rfl, hn⟩
      exact ⟨by rw [nz_pos c0], hn⟩

end Go.Proofs.Ytmcfkgjkfceomaa
