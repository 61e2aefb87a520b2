/- What disk's functions do: New, Len, has, Down, Writes, Fuse, On. -/
import Derived.Test.YtijbpafmokbnaaaDka
import Derived.Test.YtijbpafmokbnaaaPby
import Derived.Test.YtijbpafmokbnaaaSlx
namespace Go.Proofs.Ytijbpafmokbnaaa
open Go.RowKit Go.Shelf Gw Pol
theorem arr_info : (Try.prog.info? 57).map (·.size) = some 32 := by kernel_rfl
theorem arr_zero : (Try.prog.info? 57).map (fun i => (i.zero, i.size, i.bytes)) = some (some (.agg (bys (List.replicate 32 0)).toArray), 32, 32) := by kernel_rfl
theorem made_arr (w : World) (n : Nat) (hn : n ≤ 2048) : (Instr.makeSlice 65 (.int .i64 (n : Int)) (.int .i64 (n : Int))).run Try.prog w = .ok (.slice (some ⟨w.heap.size, 0, none⟩) n n) (w.alloc (.cells (bys (List.replicate (32 * n) 0)).toArray 57)) := by
  cases hq : Try.prog.info? 57 with
  | none => have := arr_zero; simp [hq] at this
  | some i =>
    have h := arr_zero
    simp [hq] at h
    obtain ⟨hz, hs, hb⟩ := h
    have hr := run_make (P := Try.prog) w 65 57 i _ Try.underlying65 hq hz .i64 .i64 n n (by omega) (Int.le_refl _) (by rw [hb]; omega) (by omega)
    simp only [Int.toNat_natCast] at hr
    rw [hr, hs, Nat.mul_comm 32 n]
    exact congrArg (fun X => Result.ok (Value.slice (some ⟨w.heap.size, 0, none⟩) n n) (w.alloc (.cells X 57))) (made_k 32 (n * 32) (by omega))
set_option maxRecDepth 100000 in
theorem dlen_any (p g n : Nat) (L : List Nat) (dn fu : Bool) (lf wr : Nat) (w : World) (h : Dk w p g n L dn fu lf wr) : Calls Try.prog 21 #[.pointer (some ⟨p, 0, none⟩)] w fun e w' => e = .returned (.int .i64 (n : Int)) ∧ w' = w := by
  have c0 : w.cell? ⟨p, 0, none⟩ = _ := h.cell 0
  go_enter Try.func21, Try.ntmps21
  go_wp2
  go_ret
  exact ⟨rfl, rfl⟩
set_option maxRecDepth 100000 in
theorem dlen_none (w : World) : Calls Try.prog 21 #[.pointer none] w fun e w' => e = .returned (.int .i64 0) ∧ w' = w := by
  go_enter Try.func21, Try.ntmps21
  go_wp2
  go_ret
  exact ⟨rfl, rfl⟩
set_option maxRecDepth 100000 in
theorem ddown_any (p g n : Nat) (L : List Nat) (dn fu : Bool) (lf wr : Nat) (w : World) (h : Dk w p g n L dn fu lf wr) : Calls Try.prog 38 #[.pointer (some ⟨p, 0, none⟩)] w fun e w' => e = .returned (.bool dn) ∧ w' = w := by
  have c1 : w.cell? ⟨p, 1, none⟩ = _ := h.cell 1
  go_enter Try.func38, Try.ntmps38
  go_wp2
  go_ret
  exact ⟨rfl, rfl⟩
set_option maxRecDepth 100000 in
theorem ddown_none (w : World) : Calls Try.prog 38 #[.pointer none] w fun e w' => e = .returned (.bool false) ∧ w' = w := by
  go_enter Try.func38, Try.ntmps38
  go_wp2
  go_ret
  exact ⟨rfl, rfl⟩
set_option maxRecDepth 100000 in
theorem dwrites_any (p g n : Nat) (L : List Nat) (dn fu : Bool) (lf wr : Nat) (w : World) (h : Dk w p g n L dn fu lf wr) : Calls Try.prog 19 #[.pointer (some ⟨p, 0, none⟩)] w fun e w' => e = .returned (.int .i64 (wr : Int)) ∧ w' = w := by
  have c4 : w.cell? ⟨p, 4, none⟩ = _ := h.cell 4
  go_enter Try.func19, Try.ntmps19
  go_wp2
  go_ret
  exact ⟨rfl, rfl⟩
set_option maxRecDepth 100000 in
theorem dwrites_none (w : World) : Calls Try.prog 19 #[.pointer none] w fun e w' => e = .returned (.int .i64 0) ∧ w' = w := by
  go_enter Try.func19, Try.ntmps19
  go_wp2
  go_ret
  exact ⟨rfl, rfl⟩
/-- Is there a block k? -/
def hs (n : Nat) (k : Int) : Bool := decide (0 ≤ k) && decide (k < (n : Int))
set_option maxRecDepth 100000 in
theorem dhas_any (p g n : Nat) (L : List Nat) (dn fu : Bool) (lf wr : Nat) (k : Int) (w : World) (h : Dk w p g n L dn fu lf wr) : Calls Try.prog 40 #[.pointer (some ⟨p, 0, none⟩), .int .i64 k] w fun e w' => e = .returned (.bool (hs n k)) ∧ w' = w := by
  have HL := Lib.hid (dlen_any p g n L dn fu lf wr w h)
  clear h
  unfold hs
  by_cases h0 : 0 ≤ k
  · have t0 : decide (0 ≤ k) = true := by simpa using h0
    rw [t0, Bool.true_and]
    go_enter Try.func40, Try.ntmps40
    go_wp2_with fail
    refine HL.out.mono ?_
    rintro e w' ⟨rfl, rfl⟩
    go_wp2
    go_ret
    exact ⟨rfl, rfl⟩
  · have t0 : decide (0 ≤ k) = false := by simpa using h0
    rw [t0, Bool.false_and]
    go_enter Try.func40, Try.ntmps40
    go_wp2
    go_ret
    exact ⟨rfl, rfl⟩
set_option maxRecDepth 100000 in
theorem dhas_none (k : Int) (w : World) : Calls Try.prog 40 #[.pointer none, .int .i64 k] w fun e w' => e = .returned (.bool false) ∧ w' = w := by
  by_cases h0 : 0 ≤ k
  · have h1 : ¬ k < 0 := by omega
    have t0 : decide (0 ≤ k) = true := by simpa using h0
    go_enter Try.func40, Try.ntmps40
    go_wp2_with fail
    refine (dlen_none w).mono ?_
    rintro e w' ⟨rfl, rfl⟩
    go_wp2
    go_ret
    exact ⟨congrArg (fun b => Ending.returned (.bool b)) (decide_eq_false (by omega)), rfl⟩
  · have t0 : decide (0 ≤ k) = false := by simpa using h0
    go_enter Try.func40, Try.ntmps40
    go_wp2
    go_ret
    exact ⟨rfl, rfl⟩
set_option maxRecDepth 100000 in
theorem don_any (p g n : Nat) (L : List Nat) (dn fu : Bool) (lf wr : Nat) (w : World) (h : Dk w p g n L dn fu lf wr) : Calls Try.prog 32 #[.pointer (some ⟨p, 0, none⟩)] w fun e w' => e = .returned (.tuple #[]) ∧ Dk w' p g n L false false 0 wr ∧ K2 w w' p g := by
  have c1 : w.cell? ⟨p, 1, none⟩ = _ := h.cell 1
  have c2 : w.cell? ⟨p, 2, none⟩ = _ := h.cell 2
  have c3 : w.cell? ⟨p, 3, none⟩ = _ := h.cell 3
  have f1 := h.fr 1
  have f2 := h.fr 2
  have f3 := h.fr 3
  have HH := Lib.hid h
  clear h
  go_enter Try.func32, Try.ntmps32
  go_wp2
  go_end0
  exact ⟨rfl, ((HH.out.set 1 _).set 2 _).set 3 _, ((K2.set w p g 1 _).sm (K2.set _ p g 2 _)).sm (K2.set _ p g 3 _)⟩
set_option maxRecDepth 100000 in
theorem don_none (w : World) : Calls Try.prog 32 #[.pointer none] w fun e w' => e = .returned (.tuple #[]) ∧ w' = w := by
  go_enter Try.func32, Try.ntmps32
  go_wp2
  refine bodyPost_ret (results_none rfl _ _ _) rfl ?_
  exact ⟨rfl, rfl⟩
set_option maxRecDepth 100000 in
theorem dfuse_any (p g n : Nat) (L : List Nat) (dn fu : Bool) (lf wr : Nat) (a : Int) (w : World) (h : Dk w p g n L dn fu lf wr) : Calls Try.prog 35 #[.pointer (some ⟨p, 0, none⟩), .int .i64 a] w fun e w' => e = .returned (.tuple #[]) ∧ Dk w' p g n L dn true a.toNat wr ∧ K2 w w' p g := by
  have c2 : w.cell? ⟨p, 2, none⟩ = _ := h.cell 2
  have c3 : w.cell? ⟨p, 3, none⟩ = _ := h.cell 3
  have f2 := h.fr 2
  have f3 := h.fr 3
  have HH := Lib.hid h
  clear h
  by_cases ha : 0 ≤ a
  · obtain ⟨b, rfl⟩ : ∃ b : Nat, a = (b : Int) := ⟨a.toNat, by omega⟩
    rw [Int.toNat_natCast]
    go_enter Try.func35, Try.ntmps35
    go_wp2
    go_end0
    exact ⟨rfl, (HH.out.set 2 _).set 3 _, (K2.set w p g 2 _).sm (K2.set _ p g 3 _)⟩
  · have hz : a.toNat = 0 := by omega
    rw [hz]
    clear hz
    have ha' : a ≤ 0 := by omega
    go_enter Try.func35, Try.ntmps35
    go_wp2
    go_end0
    exact ⟨rfl, (HH.out.set 2 _).set 3 _, (K2.set w p g 2 _).sm (K2.set _ p g 3 _)⟩
set_option maxRecDepth 100000 in
theorem dfuse_none (a : Int) (w : World) : Calls Try.prog 35 #[.pointer none, .int .i64 a] w fun e w' => e = .returned (.tuple #[]) ∧ w' = w := by
  go_enter Try.func35, Try.ntmps35
  go_wp2
  refine bodyPost_ret (results_none rfl _ _ _) rfl ?_
  exact ⟨rfl, rfl⟩
set_option maxRecDepth 100000 in
theorem dnew_any (a : Int) (w : World) : Calls Try.prog 23 #[.int .i64 a] w fun e w' => ∃ p g, e = .returned (.pointer (some ⟨p, 0, none⟩)) ∧ Dk w' p g (nb a) (List.replicate (32 * nb a) 0) false false 0 0 ∧ w.heap.size ≤ p ∧ w.heap.size ≤ g ∧ Below w.heap.size w w' := by
  have hnb : nb a ≤ 2048 := Nat.min_le_right _ _
  have hend : ∀ m, m = nb a → Dk ((w.alloc (.cells (bys (List.replicate (32 * m) 0)).toArray 57)).alloc (.cells #[.slice (some ⟨w.heap.size, 0, none⟩) m m, .bool false, .bool false, .int .i64 0, .int .i64 0] 67)) (w.heap.size + 1) w.heap.size (nb a) (List.replicate (32 * nb a) 0) false false 0 0 := by
    rintro m rfl
    exact ⟨heap_alloc2_new w _ _, heap_alloc2_old w _ _, by simp, hnb, fun x hx => by rw [List.eq_of_mem_replicate hx]; omega, by omega⟩
  have HE := Lib.hid hend
  have HM := Lib.hid (made_arr w (nb a) hnb)
  have HB : ∀ (o o' : Obj), Below w.heap.size w ((w.alloc o).alloc o') := fun o o' => ((Below.refl _ _).alloc (Nat.le_refl _) o).alloc (by simp) o'
  have HBB := Lib.hid HB
  clear hend HB
  by_cases h0 : a < 0
  · have hn : nb (a) = 0 := by unfold nb; omega
    have hm : (Instr.makeSlice 65 (.int .i64 (0 : Int)) (.int .i64 (0 : Int))).run Try.prog w = .ok (.slice (some ⟨w.heap.size, 0, none⟩) 0 0) (w.alloc (.cells (bys (List.replicate (32 * 0) 0)).toArray 57)) := by have := HM.out; rw [hn] at this; exact this
    have he := HE.out 0 hn.symm
    obtain ⟨X, hX⟩ : ∃ X : Array Value, X = (bys (List.replicate (32 * 0) 0)).toArray := ⟨_, rfl⟩
    rw [← hX] at hm he
    have HE2 := Lib.hid he
    have h0p : a ≤ 0 := by omega
    clear hn hnb he hX
    go_enter Try.func23, Try.ntmps23
    go_wp2
    go_ret
    exact ⟨_, _, rfl, HE2.out, by omega, by omega, HBB.out _ _⟩
  · obtain ⟨b, rfl⟩ : ∃ b : Nat, a = (b : Int) := ⟨a.toNat, by omega⟩
    by_cases h1 : b ≤ 2048
    · have hn : nb ((b : Int)) = b := by unfold nb; omega
      have hm : (Instr.makeSlice 65 (.int .i64 (b : Int)) (.int .i64 (b : Int))).run Try.prog w = .ok (.slice (some ⟨w.heap.size, 0, none⟩) b b) (w.alloc (.cells (bys (List.replicate (32 * b) 0)).toArray 57)) := by have := HM.out; rw [hn] at this; exact this
      have he := HE.out b hn.symm
      obtain ⟨X, hX⟩ : ∃ X : Array Value, X = (bys (List.replicate (32 * b) 0)).toArray := ⟨_, rfl⟩
      rw [← hX] at hm he
      have HE2 := Lib.hid he
      have h0p : (0 : Int) ≤ (b : Int) := by omega
      have h1p : (b : Int) ≤ 2048 := by omega
      clear hn hnb he hX h0 h1
      go_enter Try.func23, Try.ntmps23
      go_wp2
      go_ret
      exact ⟨_, _, rfl, HE2.out, by omega, by omega, HBB.out _ _⟩
    · have hn : nb ((b : Int)) = 2048 := by unfold nb; omega
      have hm : (Instr.makeSlice 65 (.int .i64 (2048 : Int)) (.int .i64 (2048 : Int))).run Try.prog w = .ok (.slice (some ⟨w.heap.size, 0, none⟩) 2048 2048) (w.alloc (.cells (bys (List.replicate (32 * 2048) 0)).toArray 57)) := by have := HM.out; rw [hn] at this; exact this
      have he := HE.out 2048 hn.symm
      obtain ⟨X, hX⟩ : ∃ X : Array Value, X = (bys (List.replicate (32 * 2048) 0)).toArray := ⟨_, rfl⟩
      rw [← hX] at hm he
      have HE2 := Lib.hid he
      have h0p : (0 : Int) ≤ (b : Int) := by omega
      have h1p : (2048 : Int) < (b : Int) := by omega
      clear hn hnb he hX h0 h1
      go_enter Try.func23, Try.ntmps23
      go_wp2
      go_ret
      exact ⟨_, _, rfl, HE2.out, by omega, by omega, HBB.out _ _⟩
end Go.Proofs.Ytijbpafmokbnaaa
