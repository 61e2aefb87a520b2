/- What the definition's Do does with the other calls: Start, Fuse, Turn. -/
import Derived.Test.YtijbpafmokbnaaaSkd
import Derived.StillTailTactics
import Derived.Laws.BitsAllLaws
namespace Go.Proofs.Ytijbpafmokbnaaa
open Go.RowKit Go.Shelf Gw Pol Go.BigFrame
section
variable (y : Nat) (A : Option Addr) (m c : Nat) (w : World) (q k B0 room : Nat) (s : Pw) (K : List Nat)
set_option maxRecDepth 100000 in
theorem fslot_start (N : Int) (h : Rs w q k B0 room s K) :
    Calls Try.prog 11 #[.pointer (some ⟨q, 0, none⟩), .agg #[.int .i64 2, .int .i64 N, .int .u8 (y : Int), .slice A m c]] w fun e w' => e = .returned (.int .i64 0) ∧ Rs w' q k B0 room ⟨-1, false, s.u⟩ K ∧ K2 w w' q q := by
  obtain ⟨dirty, Ak, ck, hb, ho, hAk⟩ := h.box
  have hbl : Below w.heap.size w (w.alloc (.cells #[.int .i64 2, .int .i64 N, .int .u8 (y : Int), .slice A m c] 30)) := (Below.refl _ w).alloc (Nat.le_refl _) _
  have hb1 : Rb (w.alloc (.cells #[.int .i64 2, .int .i64 N, .int .u8 (y : Int), .slice A m c] 30)) q (room : Int) s.Z s.u s.gone dirty (.slice Ak K.length ck) := (hbl.block q hb.lt).trans hb
  have c1 := hb1.cell 1
  have c3 := hb1.cell 3
  have c4 := hb1.cell 4
  have f1 := frozen_of (k := 1) hb1
  have f3 := frozen_of (k := 3) hb1
  have f4 := frozen_of (k := 4) hb1
  have HB1 := Lib.hid hb1
  have HK1 := Lib.hid (K2.ofBelow (p := q) (g := q) hbl (Nat.le_refl _))
  have HFIN := Lib.hid (show ∀ w', K2 w w' q q → Rb w' q (room : Int) (-1) s.u false false (.slice Ak K.length ck) → Rs w' q k B0 room ⟨-1, false, s.u⟩ K from fun w' hk hb => Rs.turned h.lt h.klt h.few h.len ⟨Int.le_refl _, by show (-1 : Int) ≤ _; omega⟩ ho hAk hk hb)
  clear h hb ho hAk hbl hb1
  go_enter Try.func11, Try.ntmps11
  go_wp2
  go_ret
  have hk := ((HK1.out.sm (K2.set _ q q 1 (.int .i64 (-1)))).sm (K2.set _ q q 3 (.bool false))).sm (K2.set _ q q 4 (.bool false))
  exact ⟨rfl, HFIN.out _ hk (heap_set_same (heap_set_same (heap_set_same HB1.out))), hk⟩
set_option maxRecDepth 100000 in
theorem fslot_fuse (N : Int) (hN : N ≤ 9223372036854775807) (h : Rs w q k B0 room s K) :
    Calls Try.prog 11 #[.pointer (some ⟨q, 0, none⟩), .agg #[.int .i64 3, .int .i64 N, .int .u8 (y : Int), .slice A m c]] w fun e w' => e = .returned (.int .i64 0) ∧ Rs w' q k B0 room ⟨(N.toNat : Int), s.gone, s.u⟩ K ∧ K2 w w' q q := by
  obtain ⟨dirty, Ak, ck, hb, ho, hAk⟩ := h.box
  have hbl : Below w.heap.size w (w.alloc (.cells #[.int .i64 3, .int .i64 N, .int .u8 (y : Int), .slice A m c] 30)) := (Below.refl _ w).alloc (Nat.le_refl _) _
  have hb1 : Rb (w.alloc (.cells #[.int .i64 3, .int .i64 N, .int .u8 (y : Int), .slice A m c] 30)) q (room : Int) s.Z s.u s.gone dirty (.slice Ak K.length ck) := (hbl.block q hb.lt).trans hb
  have c1 := hb1.cell 1
  have f1 := frozen_of (k := 1) hb1
  have HB1 := Lib.hid hb1
  have HK1 := Lib.hid (K2.ofBelow (p := q) (g := q) hbl (Nat.le_refl _))
  have HFIN := Lib.hid (show ∀ w', K2 w w' q q → Rb w' q (room : Int) (N.toNat : Int) s.u s.gone dirty (.slice Ak K.length ck) → Rs w' q k B0 room ⟨(N.toNat : Int), s.gone, s.u⟩ K from fun w' hk hb => Rs.turned h.lt h.klt h.few h.len ⟨by show (-1 : Int) ≤ (N.toNat : Int); omega, by show (N.toNat : Int) ≤ _; omega⟩ ho hAk hk hb)
  have hqne : w.heap.size ≠ q := by have := hb.lt; omega
  have hqne2 : q ≠ w.heap.size := Ne.symm hqne
  clear h hb ho hAk hbl hb1 hN
  by_cases h0 : 0 ≤ N
  · obtain ⟨z, rfl⟩ : ∃ z : Nat, N = (z : Int) := ⟨N.toNat, by omega⟩
    have t1 : ¬ (z : Int) < 0 := by omega
    rw [Int.toNat_natCast] at HFIN ⊢
    go_enter Try.func11, Try.ntmps11
    go_wp2
    go_ret
    have hk := HK1.out.sm (K2.set _ q q 1 (.int .i64 (z : Int)))
    exact ⟨rfl, HFIN.out _ hk (heap_set_same HB1.out), hk⟩
  · have hz : N.toNat = 0 := by omega
    have t1 : N < 0 := by omega
    rw [hz] at HFIN ⊢
    clear hz
    go_enter Try.func11, Try.ntmps11
    go_wp2
    go_ret
    have hk := (HK1.out.sm (K2.set _ q q 1 (.int .i64 N))).sm (K2.set _ q q 1 (.int .i64 0))
    exact ⟨rfl, HFIN.out _ hk (heap_set_same (heap_set_same HB1.out)), hk⟩
set_option maxRecDepth 100000 in
theorem fslot_other (E N : Int) (hE : E ≠ 1 ∧ E ≠ 2 ∧ E ≠ 3 ∧ E ≠ 4) :
    Calls Try.prog 11 #[.pointer (some ⟨q, 0, none⟩), .agg #[.int .i64 E, .int .i64 N, .int .u8 (y : Int), .slice A m c]] w fun e w' => e = .returned (.int .i64 0) ∧ Below w.heap.size w w' := by
  have HB := Lib.hid (show Below w.heap.size w (w.alloc (.cells #[.int .i64 E, .int .i64 N, .int .u8 (y : Int), .slice A m c] 30)) from (Below.refl _ w).alloc (Nat.le_refl _) _)
  have k1 : (E == 1) = false := by simpa using hE.1
  have k2 : (E == 2) = false := by simpa using hE.2.1
  have k3 : (E == 3) = false := by simpa using hE.2.2.1
  have k4 : (E == 4) = false := by simpa using hE.2.2.2
  clear hE
  go_enter Try.func11, Try.ntmps11
  go_wp2
  go_ret
  exact ⟨rfl, HB.out⟩
/-- Is there a byte N of l? -/
def at_ (l : List Nat) (N : Int) : Bool := decide (0 ≤ N) && decide (N < (l.length : Int))
set_option maxRecDepth 100000 in
theorem fslot_far (N : Int) (h : Rs w q k B0 room s K) (hat : at_ K N = false) :
    Calls Try.prog 11 #[.pointer (some ⟨q, 0, none⟩), .agg #[.int .i64 4, .int .i64 N, .int .u8 (y : Int), .slice A m c]] w fun e w' => e = .returned (.int .i64 0) ∧ Below w.heap.size w w' := by
  obtain ⟨dirty, Ak, ck, hb, ho, hAk⟩ := h.box
  have hbl : Below w.heap.size w (w.alloc (.cells #[.int .i64 4, .int .i64 N, .int .u8 (y : Int), .slice A m c] 30)) := (Below.refl _ w).alloc (Nat.le_refl _) _
  obtain ⟨n, hn⟩ : ∃ n, n = K.length := ⟨_, rfl⟩
  rw [← hn] at hb
  have hb1 : Rb (w.alloc (.cells #[.int .i64 4, .int .i64 N, .int .u8 (y : Int), .slice A m c] 30)) q (room : Int) s.Z s.u s.gone dirty (.slice Ak n ck) := (hbl.block q hb.lt).trans hb
  have c5 : (w.alloc (.cells #[.int .i64 4, .int .i64 N, .int .u8 (y : Int), .slice A m c] 30)).cell? ⟨q, 5, none⟩ = some (.slice Ak n ck) := hb1.cell 5
  have HB := Lib.hid hbl
  have hno : ¬ (0 ≤ N ∧ N < (n : Int)) := by
    unfold at_ at hat
    rw [← hn] at hat
    simp at hat
    omega
  clear h hb ho hAk hbl hb1 hn hat
  by_cases h0 : 0 ≤ N
  · have t0 : decide (0 ≤ N) = true := by simpa using h0
    have t1 : decide (N < (n : Int)) = false := decide_eq_false (fun h => hno ⟨h0, h⟩)
    have t2 : ¬ N < (n : Int) := fun h => hno ⟨h0, h⟩
    clear hno
    go_enter Try.func11, Try.ntmps11
    go_wp2
    go_quiet (fail)
    go_wp2
    go_ret
    exact ⟨rfl, HB.out.os, HB.out.tape, HB.out.output, HB.out.size, HB.out.block⟩
  · have t0 : decide (0 ≤ N) = false := by simpa using h0
    clear hno
    go_enter Try.func11, Try.ntmps11
    go_wp2
    go_quiet (fail)
    go_wp2
    go_ret
    exact ⟨rfl, HB.out.os, HB.out.tape, HB.out.output, HB.out.size, HB.out.block⟩
set_option maxRecDepth 100000 in
theorem fslot_turn (i : Nat) (h : Rs w q k B0 room s K) (hi : i < K.length) (hy : y < 256) :
    Calls Try.prog 11 #[.pointer (some ⟨q, 0, none⟩), .agg #[.int .i64 4, .int .i64 (i : Int), .int .u8 (y : Int), .slice A m c]] w fun e w' => e = .returned (.int .i64 0) ∧ Rs w' q k B0 room s (K.set i (co K i ^^^ y)) ∧ K2 w w' q k := by
  obtain ⟨dirty, Ak, ck, hb, ho, hAk⟩ := h.box
  obtain ⟨n, hn⟩ : ∃ n, n = K.length := ⟨_, rfl⟩
  obtain rfl : Ak = some ⟨k, 0, none⟩ := by
    rcases hAk with ⟨rfl, _⟩ | h
    · have := (ho.inn).none_ rfl; have := ho.cap; omega
    · exact h
  rw [← hn] at hb
  have hbl : Below w.heap.size w (w.alloc (.cells #[.int .i64 4, .int .i64 (i : Int), .int .u8 (y : Int), .slice A m c] 30)) := (Below.refl _ w).alloc (Nat.le_refl _) _
  have hb1 : Rb (w.alloc (.cells #[.int .i64 4, .int .i64 (i : Int), .int .u8 (y : Int), .slice A m c] 30)) q (room : Int) s.Z s.u s.gone dirty (.slice (some ⟨k, 0, none⟩) n ck) := (hbl.block q hb.lt).trans hb
  have c5 : (w.alloc (.cells #[.int .i64 4, .int .i64 (i : Int), .int .u8 (y : Int), .slice A m c] 30)).cell? ⟨q, 5, none⟩ = some (.slice (some ⟨k, 0, none⟩) n ck) := hb1.cell 5
  have t0 : decide (0 ≤ (i : Int)) = true := decide_eq_true (Int.natCast_nonneg i)
  have hin : (i : Int) < (n : Int) := by omega
  have t1 : decide ((i : Int) < (n : Int)) = true := decide_eq_true hin
  have hxb : co K i < 256 := ho.2.co i
  obtain ⟨x, hx⟩ : ∃ x, x = co K i := ⟨_, rfl⟩
  rw [← hx] at hxb
  have hxor : bits .xor .u8 (x : Int) (y : Int) = ((x ^^^ y : Nat) : Int) := u8_xor_nat x y hxb hy
  have hxy : x ^^^ y < 256 := Nat.xor_lt_two_pow (n := 8) hxb hy
  have HB := Lib.hid hbl
  have HB1 := Lib.hid hb1
  have HX := Lib.hid hx
  have HH := Lib.hid h
  have HO := Lib.hid ho
  have HN := Lib.hid hn
  have HI := Lib.hid hi
  have HXY := Lib.hid hxy
  have hqk : q ≠ k := by have := h.lt; have := (ho.lt).1; omega
  have HQK := Lib.hid hqk
  have HKS := Lib.hid (show k < w.heap.size from h.klt)
  clear h hb ho hAk hbl hb1 hn hi hx hxy hy hxb hqk
  go_enter Try.func11, Try.ntmps11
  go_wp2
  go_quiet (fail)
  go_wp2
  obtain ⟨X, hX⟩ : ∃ X, X = (w.alloc (.cells #[.int .i64 4, .int .i64 (i : Int), .int .u8 (y : Int), .slice A m c] 30)).drewN nq := ⟨_, rfl⟩
  have hoX : Gw.Own X B0 5 (some ⟨k, 0, none⟩) ck K := by rw [hX]; exact ((HO.out.alloc _).drewN nq)
  have x1 : X.cell? ⟨w.heap.size, 1, none⟩ = some (.int .i64 (i : Int)) := by rw [hX]; exact World.cell?_alloc_new w _ _ 1
  have x2 : X.cell? ⟨w.heap.size, 2, none⟩ = some (.int .u8 (y : Int)) := by rw [hX]; exact World.cell?_alloc_new w _ _ 2
  have x5 : X.cell? ⟨q, 5, none⟩ = some (.slice (some ⟨k, 0, none⟩) n ck) := by rw [hX]; exact HB1.out.cell 5
  have cx : X.cell? ⟨k, i, none⟩ = some (.int .u8 (x : Int)) := by rw [hoX.cell HI.out, HX.out]
  have fx := hoX.frozen i
  have hbX : Rb X q (room : Int) s.Z s.u s.gone dirty (.slice (some ⟨k, 0, none⟩) n ck) := by rw [hX]; exact HB1.out
  have hBX : Below w.heap.size w X := by rw [hX]; exact ⟨HB.out.os, HB.out.tape, HB.out.output, HB.out.size, HB.out.block⟩
  have HOX := Lib.hid hoX
  have HBX := Lib.hid hbX
  have HBB := Lib.hid hBX
  rw [← hX]
  clear hX hoX hbX hBX c5
  go_still_tail 18, (by kernel_rfl)
  change wpList _ _ _ _ _ X.drew
  go_wp2
  go_ret
  have hk2 := K2.setg X.drew q k i (.int .u8 ((x ^^^ y : Nat) : Int))
  have hkk : K2 w (X.drew.setCell ⟨k, i, none⟩ (.int .u8 ((x ^^^ y : Nat) : Int))) q k := K2.low HBB.out ⟨hk2.os, hk2.tape, hk2.output, hk2.size, hk2.block⟩
  refine ⟨rfl, ?_, hkk⟩
  rw [← HX.out]
  have hown : Gw.Own X.drew B0 5 (some ⟨k, 0, none⟩) ck K := HOX.out.drewN 1
  refine ⟨HH.out.lt, Nat.lt_of_lt_of_le HH.out.klt hkk.size, HH.out.few, by rw [List.length_set]; exact HH.out.len, HH.out.fit, dirty, some ⟨k, 0, none⟩, ck, ?_, hown.put HI.out HXY.out, .inr rfl⟩
  rw [List.length_set, ← HN.out]
  exact (heap_set_other _ k i q _ HQK.out).trans HBX.out
end
end Go.Proofs.Ytijbpafmokbnaaa
