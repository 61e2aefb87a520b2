/- What solve's width and right do, and the statements' own right and small: whatever rows are read; memory stays as it is. -/
import Derived.Test.YtkgbmkbbkaifmaaMat
import Derived.Test.YtkgbmkbbkaifmaaGfc
namespace Go.Proofs.Ytkgbmkbbkaifmaa
open Go.RowKit Go.Shelf Gw Pol

theorem width_zero (A : Option Addr) (c : Nat) (w : World) :
    Calls Try.prog 18 #[.slice A 0 c] w fun e w' => e = .returned (.int .i64 0) ∧ w = w' := by
  go_enter Try.func18, Try.ntmps18
  go_wp2
  go_ret
  exact ⟨rfl, rfl⟩
theorem width_pos (b off c R n c0 : Nat) (A0 : Option Addr) (w : World) (hR : 0 < R) (hcell : w.cell? ⟨b, off, none⟩ = some (.slice A0 n c0)) :
    Calls Try.prog 18 #[.slice (some ⟨b, off, none⟩) R c] w fun e w' => e = .returned (.int .i64 (n : Int)) ∧ w = w' := by
  have h0 : ((R : Int) == 0) = false := beq_eq_false_iff_ne.2 (by omega)
  go_enter Try.func18, Try.ntmps18
  go_wp2
  go_ret
  exact ⟨rfl, rfl⟩

/-- How long row i is, as a walk reads it. -/
theorem MIn.len {W : World} {B c R : Nat} {A : Option Addr} {A' : Nat → Option Addr} {c' : Nat → Nat} {l : Nat → List Nat} (h : MIn W B A c R A' c' l) {i : Nat} (hi : i < R) :
    ∃ b off A0 c0 m, A = some ⟨b, off, none⟩ ∧ m = (l i).length ∧ W.cell? ⟨b, off + i, none⟩ = some (.slice A0 m c0) ∧ m ≤ c0 := by
  obtain ⟨b, off, h1, h2, h3, h4⟩ := h.rd i hi
  exact ⟨b, off, _, _, _, h1, rfl, h3, h4.cap⟩

set_option maxRecDepth 100000 in
set_option maxHeartbeats 1000000 in
theorem sright_any (A : Option Addr) (c R B : Nat) (A' : Nat → Option Addr) (c' : Nat → Nat) (l : Nat → List Nat) (w : World) (h : MIn w B A c R A' c' l) (hR : R ≤ 140737488355328) (b : Bool) (hb : b = true ↔ ∀ i, i < R → (l i).length = (l 0).length) :
    Calls Try.prog 17 #[.slice A R c] w fun e w' => e = .returned (.bool b) ∧ w = w' := by
  have hcap := h.cap
  go_enter Try.func17, Try.ntmps17
  go_wp2
  go_loop [7] (fun i => ∃ k : Nat, k ≤ R ∧ i = .int .i64 (k : Int) ∧ Hid (∀ i, i < k → (l i).length = (l 0).length)) (fun i => R - (intOf i).toNat)
  case atStart => exact ⟨0, Nat.zero_le _, rfl, Lib.hid (fun i hi => by omega)⟩
  case round =>
    obtain ⟨k, hk, rfl, hall⟩ := hrel
    by_cases hlt : k < R
    · obtain ⟨b0, off0, A0, c0, n, rfl, hn, hc0, hnc⟩ := MIn.len h (i := 0) (by omega)
      obtain ⟨b1, off1, A1, c1, m, e1, hm, hc1, hmc⟩ := MIn.len h hlt
      injection e1 with e1
      injection e1 with e2 e3
      subst e2 e3
      have HN := Lib.hid hn
      have HM := Lib.hid hm
      have HB := Lib.hid hb
      clear hn hm hb
      have W0 := Lib.hid (width_pos b0 off0 c R n c0 A0 w (by omega) (by simpa using hc0))
      by_cases e : m = n
      · subst e
        have e2 : ((m : Int) == (m : Int)) = true := by simp
        go_wp2_with fail
        refine W0.out.mono ?_
        rintro e w' ⟨rfl, rfl⟩
        go_wp2
        go_round
        case rel => exact ⟨k + 1, by omega, by go_num, Lib.hid (fun i hi => by
          by_cases e : i = k
          · subst e; rw [← HM.out, HN.out]
          · exact hall.out i (by omega))⟩
        case measure => simp [intOf]; omega
      · have e2 : ((m : Int) == (n : Int)) = false := beq_eq_false_iff_ne.2 (by omega)
        go_wp2_with fail
        refine W0.out.mono ?_
        rintro e w' ⟨rfl, rfl⟩
        go_wp2
        go_ret
        refine ⟨?_, rfl⟩
        cases b
        · rfl
        · exact absurd ((HB.out.1 rfl) k hlt) (by rw [← HM.out, ← HN.out]; exact e)
    · have HB := Lib.hid hb
      clear hb
      go_wp2
      go_ret
      exact ⟨by rw [HB.out.2 (fun i hi => hall.out i (by omega))]; rfl, rfl⟩

set_option maxRecDepth 100000 in
set_option maxHeartbeats 1000000 in
theorem lright_any (A : Option Addr) (c R B : Nat) (A' : Nat → Option Addr) (c' : Nat → Nat) (l : Nat → List Nat) (w : World) (h : MIn w B A c R A' c' l) (hR : R ≤ 140737488355328) (b : Bool) (hb : b = true ↔ ∀ i, i < R → (l i).length = (l 0).length) :
    Calls Try.prog 11 #[.slice A R c] w fun e w' => e = .returned (.bool b) ∧ ∃ n, w' = w.drewN n := by
  have hcap := h.cap
  go_enter Try.func11, Try.ntmps11
  go_wp2
  go_loopw [3] (fun i wr => ∃ k : Nat, k ≤ R ∧ i = .int .i64 (k : Int) ∧ Hid (∀ i, i < k → (l i).length = (l 0).length) ∧ ∃ q, wr = w.drewN q) (fun i _ => R - (intOf i).toNat)
  case atStart => exact ⟨0, Nat.zero_le _, rfl, Lib.hid (fun i hi => by omega), 0, rfl⟩
  case round =>
    obtain ⟨k, hk, rfl, hall, q, rfl⟩ := hrel
    by_cases hlt : k < R
    · obtain ⟨b0, off0, A0, c0, n, rfl, hn, hc0, hnc⟩ := MIn.len h (i := 0) (by omega)
      obtain ⟨b1, off1, A1, c1, m, e1, hm, hc1, hmc⟩ := MIn.len h hlt
      injection e1 with e1
      injection e1 with e2 e3
      subst e2 e3
      have HN := Lib.hid hn
      have HM := Lib.hid hm
      have HB := Lib.hid hb
      clear hn hm hb
      rw [Nat.add_zero] at hc0
      have hR0 : 0 < R := by omega
      by_cases e : m = n
      · subst e
        have e2 : ((m : Int) == (m : Int)) = true := by simp
        go_wp2
        go_quiet (fail)
        go_wp2
        go_roundw
        case rel => exact ⟨k + 1, by omega, by go_num, Lib.hid (fun i hi => by
          by_cases e : i = k
          · subst e; rw [← HM.out, HN.out]
          · exact hall.out i (by omega)), _, rfl⟩
        case measure => simp [intOf]; omega
      · have e2 : ((m : Int) == (n : Int)) = false := beq_eq_false_iff_ne.2 (by omega)
        go_wp2
        go_quiet (fail)
        go_wp2
        go_ret
        refine ⟨?_, _, World.drewN_drewN _ _ _⟩
        cases b
        · rfl
        · exact absurd ((HB.out.1 rfl) k hlt) (by rw [← HM.out, ← HN.out]; exact e)
    · have HB := Lib.hid hb
      clear hb
      go_wp2
      go_ret
      exact ⟨by rw [HB.out.2 (fun i hi => hall.out i (by omega))]; rfl, _, rfl⟩

set_option maxRecDepth 100000 in
set_option maxHeartbeats 1000000 in
theorem lsmall_any (A : Option Addr) (c R B : Nat) (A' : Nat → Option Addr) (c' : Nat → Nat) (l : Nat → List Nat) (w : World) (h : MIn w B A c R A' c' l) (hR : R ≤ 140737488355328) (b : Bool) (hb : b = true ↔ R ≤ 30 ∧ ∀ i, i < R → (l i).length ≤ 30) :
    Calls Try.prog 7 #[.slice A R c] w fun e w' => e = .returned (.bool b) ∧ w = w' := by
  have hcap := h.cap
  have HB := Lib.hid hb
  clear hb
  go_enter Try.func7, Try.ntmps7
  go_wp2
  go_loop [3] (fun i => ∃ k : Nat, k ≤ R ∧ k ≤ 30 ∧ i = .int .i64 (k : Int) ∧ Hid (∀ i, i < k → (l i).length ≤ 30)) (fun i => R - (intOf i).toNat)
  case atStart => exact ⟨0, Nat.zero_le _, by omega, rfl, Lib.hid (fun i hi => by omega)⟩
  case round =>
    obtain ⟨k, hk, hk30, rfl, hall⟩ := hrel
    by_cases hlt : k < R
    · by_cases h30 : k < 30
      · obtain ⟨b1, off1, A1, c1, m, rfl, hm, hc1, hmc⟩ := MIn.len h hlt
        have HM := Lib.hid hm
        clear hm
        by_cases e : 30 < m
        · go_wp2
          go_ret
          refine ⟨?_, rfl⟩
          cases b
          · rfl
          · exact absurd ((HB.out.1 rfl).2 k hlt) (by rw [← HM.out]; omega)
        · go_wp2
          go_round
          case rel => exact ⟨k + 1, by omega, by omega, by go_num, Lib.hid (fun i hi => by
            by_cases e : i = k
            · subst e; rw [← HM.out]; omega
            · exact hall.out i (by omega))⟩
          case measure => simp [intOf]; omega
      · have hRb : ¬ (R ≤ 30) := by omega
        go_wp2
        go_ret
        refine ⟨?_, rfl⟩
        show Ending.returned (Value.bool (decide ((R : Int) ≤ 30))) = _
        rw [decide_eq_false (by omega)]
        cases b
        · rfl
        · exact absurd (HB.out.1 rfl).1 hRb
    · have hRb : R ≤ 30 := by omega
      go_wp2
      go_ret
      refine ⟨?_, rfl⟩
      show Ending.returned (Value.bool (decide ((R : Int) ≤ 30))) = _
      rw [decide_eq_true (by omega), HB.out.2 ⟨by omega, fun i hi => hall.out i (by omega)⟩]
end Go.Proofs.Ytkgbmkbbkaifmaa
