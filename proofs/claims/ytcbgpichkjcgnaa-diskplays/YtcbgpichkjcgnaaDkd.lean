/- What the definition's New and Do do. -/
import Derived.Test.YtcbgpichkjcgnaaDkc
import Derived.BigQuiet
import Derived.Test.YtcbgpichkjcgnaaPby
namespace Go.Proofs.Ytcbgpichkjcgnaa
open Go.RowKit Go.Shelf Gw Pol Go.BigFrame
theorem Sl.keepq {w w' : World} {B p g : Nat} {A : Option Addr} {l : List Nat} (h : Sl w B A l) (hk : K2 w w' p g) (hp : B ≤ p) (hg : B ≤ g) : Sl w' B A l := fun i x hx => by
  obtain ⟨h1, b, off, h2, h3, h4⟩ := h i x hx
  exact ⟨h1, b, off, h2, h3, (cell_heap (hk.block b (cell_lt h4) (by omega) (by omega))).trans h4⟩
theorem i64w (x y : Int) (h : x = y) (h0 : -9223372036854775808 ≤ y) (h1 : y ≤ 9223372036854775807) : IntKind.i64.wrap x = y ∧ wrap64 x = y := by
  subst h
  exact ⟨by rw [IntKind.wrap_i64]; omega, by unfold wrap64; omega⟩
theorem z_ne (z : Nat) (Z : Int) (h : Z = (z : Int) + 1) : (Z == 0) = false := by simp; omega
theorem z_pos (z : Nat) (Z : Int) (h : Z = (z : Int) + 1) : (0 : Int) < Z := by omega
theorem z_wrap (z : Nat) (Z : Int) (h : Z = (z : Int) + 1) (hz : (z : Int) < 9223372036854775807) : IntKind.i64.wrap (Z - 1) = (z : Int) := by rw [IntKind.wrap_i64]; omega
theorem slice_l_at (g M o : Nat) (h : o < M) (w' : World) : (Instr.sliceAt 28 (.slice (some ⟨g, 0, none⟩) M M) (some (.int .i64 (o : Int))) none none).run Try.prog w' = .ok (.slice (some ⟨g, o, none⟩) (M - o) (M - o)) w' := by
  rw [run_sliceAt_slice w' _ _ _ _ _ slice_elem, run_slice_l w' _ _ M M slice_elem .i64 (o : Int) (by omega) (by omega), slice_one, Result.andThen_ok, Int.toNat_natCast]
  unfold sliced
  rw [if_neg (by omega), Option.map_some, Nat.mul_one, addr_add, Nat.zero_add]
theorem slice_lh_at (g M o h : Nat) (h0 : o ≤ h) (h1 : h ≤ M) (ho : o < M) (w' : World) : (Instr.sliceAt 28 (.slice (some ⟨g, 0, none⟩) M M) (some (.int .i64 (o : Int))) (some (.int .i64 (h : Int))) none).run Try.prog w' = .ok (.slice (some ⟨g, o, none⟩) (h - o) (M - o)) w' := by
  rw [run_sliceAt_slice w' _ _ _ _ _ slice_elem, run_slice_lh w' _ _ M M slice_elem .i64 .i64 (o : Int) (h : Int) (by omega) (by omega) (by omega), slice_one, Result.andThen_ok, Int.toNat_natCast, Int.toNat_natCast]
  unfold sliced
  rw [if_neg (by omega), Option.map_some, Nat.mul_one, addr_add, Nat.zero_add]
theorem made_b (w : World) (m : Nat) (hm : m ≤ 65536) : (Instr.makeSlice 28 (.int .i64 (m : Int)) (.int .i64 (m : Int))).run Try.prog w = .ok (.slice (some ⟨w.heap.size, 0, none⟩) m m) (w.alloc (.cells (bys (List.replicate m 0)).toArray 5)) := by
  rw [← made_bys]
  exact run_make_row' (P := Try.prog) 28 5 (.int .u8 0) 1 Try.underlying28 pbyte_info rfl .i64 .i64 m (by omega) (by omega) w
set_option maxRecDepth 100000 in
theorem fnew_at (a : Int) (w : World) : Calls Try.prog 8 #[.int .i64 a] w fun e w' => e = .returned (.pointer (some ⟨w.heap.size + 1, 0, none⟩)) ∧ Df w' (w.heap.size + 1) w.heap.size (nb a) (List.replicate (32 * nb a) 0) (-1) 0 false ∧ Below w.heap.size w w' := by
  have hnb : nb a ≤ 2048 := Nat.min_le_right _ _
  obtain ⟨n, hn⟩ : ∃ n, n = nb a := ⟨_, rfl⟩
  rw [← hn] at hnb ⊢
  obtain ⟨M, hM⟩ : ∃ M, M = 32 * n := ⟨_, rfl⟩
  have hm := made_b w M (by omega)
  have HE := Lib.hid (show Df ((w.alloc (.cells (bys (List.replicate M 0)).toArray 5)).alloc (.cells #[.slice (some ⟨w.heap.size, 0, none⟩) M M, .int .i64 (-1), .int .i64 0, .bool false] 30)) (w.heap.size + 1) w.heap.size n (List.replicate (32 * n) 0) (-1) 0 false from by
    rw [hM]; exact ⟨heap_alloc2_new w _ _, heap_alloc2_old w _ _, by simp, hnb, fun x hx => by rw [List.eq_of_mem_replicate hx]; omega, by omega⟩)
  have HBB := Lib.hid (show ∀ (o o' : Obj), Below w.heap.size w ((w.alloc o).alloc o') from fun o o' => ((Below.refl _ _).alloc (Nat.le_refl _) o).alloc (by simp) o')
  obtain ⟨X, hX⟩ : ∃ X : Array Value, X = (bys (List.replicate M 0)).toArray := ⟨_, rfl⟩
  rw [← hX] at hm HE
  obtain ⟨b, hb⟩ : ∃ b : Int, b = (n : Int) := ⟨_, rfl⟩
  have hcase : (a < 0 ∧ b = 0) ∨ (2048 < a ∧ b = 2048) ∨ (0 ≤ a ∧ a ≤ 2048 ∧ b = a) := by unfold nb at hn; omega
  have hw := (i64w (b * 32) (M : Int) (by omega) (by omega) (by omega)).1
  clear hX hM hn hnb hb
  rcases hcase with ⟨h, rfl⟩ | ⟨h, rfl⟩ | ⟨h, h2, rfl⟩
  · have h1 : ¬ (2048 : Int) < 0 := by omega
    have hw0 : (M : Int) = 0 := by rw [← hw]; rfl
    rw [hw0] at hm
    clear hw0 hw
    go_enter Try.func8, Try.ntmps8
    go_wp2
    go_ret
    exact ⟨rfl, HE.out, HBB.out _ _⟩
  · have h1 : ¬ a < 0 := by omega
    have hw0 : (M : Int) = 65536 := by rw [← hw]; rfl
    rw [hw0] at hm
    clear hw0 hw
    go_enter Try.func8, Try.ntmps8
    go_wp2
    go_ret
    exact ⟨rfl, HE.out, HBB.out _ _⟩
  · have h3 : ¬ b < 0 := by omega
    have h4 : ¬ (2048 : Int) < b := by omega
    clear h h2
    go_enter Try.func8, Try.ntmps8
    go_wp2
    go_ret
    exact ⟨rfl, HE.out, HBB.out _ _⟩
theorem fnew_any (a : Int) (w : World) : Calls Try.prog 8 #[.int .i64 a] w fun e w' => ∃ p g, e = .returned (.pointer (some ⟨p, 0, none⟩)) ∧ Df w' p g (nb a) (List.replicate (32 * nb a) 0) (-1) 0 false ∧ w.heap.size ≤ p ∧ w.heap.size ≤ g ∧ Below w.heap.size w w' := by
  refine (fnew_at a w).mono ?_
  rintro e w' ⟨h1, h2, h3⟩
  exact ⟨_, _, h1, h2, by omega, by omega, h3⟩
section
variable (y : Nat) (A : Option Addr) (m c : Nat) (w : World)
set_option maxRecDepth 100000 in
theorem fdo_other (q g n : Nat) (L : List Nat) (lf : Int) (wr : Nat) (gone : Bool) (K N T : Int) (h : Df w q g n L lf wr gone) (hK : K ≠ 1 ∧ K ≠ 2 ∧ K ≠ 3 ∧ K ≠ 4 ∧ K ≠ 5) :
    Calls Try.prog 11 #[.pointer (some ⟨q, 0, none⟩), .agg #[.int .i64 K, .int .i64 N, .int .i64 T, .int .u8 (y : Int), .slice A m c]] w fun e w' => e = .returned (.tuple #[.int .i64 0, .string ⟨#[]⟩, .bool false]) ∧ Below w.heap.size w w' := by
  obtain ⟨M, hM⟩ : ∃ M, M = 32 * n := ⟨_, rfl⟩
  have hb : Below w.heap.size w (w.alloc (.cells #[.int .i64 K, .int .i64 N, .int .i64 T, .int .u8 (y : Int), .slice A m c] 33)) := (Below.refl _ w).alloc (Nat.le_refl _) _
  have h1 : Df (w.alloc (.cells #[.int .i64 K, .int .i64 N, .int .i64 T, .int .u8 (y : Int), .slice A m c] 33)) q g n L lf wr gone := Bxs.below h hb (Nat.le_refl _)
  have c0 : (w.alloc (.cells #[.int .i64 K, .int .i64 N, .int .i64 T, .int .u8 (y : Int), .slice A m c] 33)).cell? ⟨q, 0, none⟩ = some (.slice (some ⟨g, 0, none⟩) M M) := by rw [hM]; exact h1.cell 0
  have c1 : (w.alloc (.cells #[.int .i64 K, .int .i64 N, .int .i64 T, .int .u8 (y : Int), .slice A m c] 33)).cell? ⟨q, 1, none⟩ = some (.int .i64 lf) := h1.cell 1
  have c2 : (w.alloc (.cells #[.int .i64 K, .int .i64 N, .int .i64 T, .int .u8 (y : Int), .slice A m c] 33)).cell? ⟨q, 2, none⟩ = some (.int .i64 (wr : Int)) := h1.cell 2
  have c3 : (w.alloc (.cells #[.int .i64 K, .int .i64 N, .int .i64 T, .int .u8 (y : Int), .slice A m c] 33)).cell? ⟨q, 3, none⟩ = some (.bool gone) := h1.cell 3
  have f1 := h1.fr 1
  have f2 := h1.fr 2
  have f3 := h1.fr 3
  have hn := h.few
  have hq : ((M : Int) / 32) = (n : Int) := by omega
  have HB := Lib.hid hb
  have HD := Lib.hid (show ∀ nq, Df ((w.alloc (.cells #[.int .i64 K, .int .i64 N, .int .i64 T, .int .u8 (y : Int), .slice A m c] 33)).drewN nq) q g n L lf wr gone from fun nq => Bxs.keep h1 rfl rfl)
  have HK := Lib.hid (show ∀ nq, K2 w ((w.alloc (.cells #[.int .i64 K, .int .i64 N, .int .i64 T, .int .u8 (y : Int), .slice A m c] 33)).drewN nq) q g from fun nq => ⟨hb.os, hb.tape, hb.output, hb.size, fun k hk _ _ => hb.block k hk⟩)
  have k1 : (K == 1) = false := by simpa using hK.1
  have k2 : (K == 2) = false := by simpa using hK.2.1
  have k3 : (K == 3) = false := by simpa using hK.2.2.1
  have k4 : (K == 4) = false := by simpa using hK.2.2.2.1
  have k5 : (K == 5) = false := by simpa using hK.2.2.2.2
  have hws : (IntKind.i64.wrap ((n : Int)) = (n : Int) ∧ wrap64 ((n : Int)) = (n : Int)) := i64w _ _ (by omega) (by omega) (by omega)
  obtain ⟨hwa0, hwb0⟩ := hws
  clear h h1 hb hM hn hK
  by_cases h0 : 0 ≤ N
  · have t0 : decide (0 ≤ N) = true := by simpa using h0
    go_enter Try.func11, Try.ntmps11
    go_wp2
    go_quiet (fail)
    go_wp2
    go_ret3
    exact ⟨rfl, HB.out.os, HB.out.tape, HB.out.output, HB.out.size, HB.out.block⟩
  · have t0 : decide (0 ≤ N) = false := by simpa using h0
    go_enter Try.func11, Try.ntmps11
    go_wp2
    go_quiet (fail)
    go_wp2
    go_ret3
    exact ⟨rfl, HB.out.os, HB.out.tape, HB.out.output, HB.out.size, HB.out.block⟩
set_option maxRecDepth 100000 in
theorem fdo_arg (q g n : Nat) (L : List Nat) (lf : Int) (wr : Nat) (gone : Bool) (N T : Int) (h : Df w q g n L lf wr gone) (hN0 : hs n N = false) :
    Calls Try.prog 11 #[.pointer (some ⟨q, 0, none⟩), .agg #[.int .i64 1, .int .i64 N, .int .i64 T, .int .u8 (y : Int), .slice A m c]] w fun e w' => e = .returned (.tuple #[.int .i64 1, .string ⟨#[]⟩, .bool false]) ∧ Below w.heap.size w w' := by
  obtain ⟨M, hM⟩ : ∃ M, M = 32 * n := ⟨_, rfl⟩
  have hb : Below w.heap.size w (w.alloc (.cells #[.int .i64 1, .int .i64 N, .int .i64 T, .int .u8 (y : Int), .slice A m c] 33)) := (Below.refl _ w).alloc (Nat.le_refl _) _
  have h1 : Df (w.alloc (.cells #[.int .i64 1, .int .i64 N, .int .i64 T, .int .u8 (y : Int), .slice A m c] 33)) q g n L lf wr gone := Bxs.below h hb (Nat.le_refl _)
  have c0 : (w.alloc (.cells #[.int .i64 1, .int .i64 N, .int .i64 T, .int .u8 (y : Int), .slice A m c] 33)).cell? ⟨q, 0, none⟩ = some (.slice (some ⟨g, 0, none⟩) M M) := by rw [hM]; exact h1.cell 0
  have c1 : (w.alloc (.cells #[.int .i64 1, .int .i64 N, .int .i64 T, .int .u8 (y : Int), .slice A m c] 33)).cell? ⟨q, 1, none⟩ = some (.int .i64 lf) := h1.cell 1
  have c2 : (w.alloc (.cells #[.int .i64 1, .int .i64 N, .int .i64 T, .int .u8 (y : Int), .slice A m c] 33)).cell? ⟨q, 2, none⟩ = some (.int .i64 (wr : Int)) := h1.cell 2
  have c3 : (w.alloc (.cells #[.int .i64 1, .int .i64 N, .int .i64 T, .int .u8 (y : Int), .slice A m c] 33)).cell? ⟨q, 3, none⟩ = some (.bool gone) := h1.cell 3
  have f1 := h1.fr 1
  have f2 := h1.fr 2
  have f3 := h1.fr 3
  have hn := h.few
  have hq : ((M : Int) / 32) = (n : Int) := by omega
  have HB := Lib.hid hb
  have HD := Lib.hid (show ∀ nq, Df ((w.alloc (.cells #[.int .i64 1, .int .i64 N, .int .i64 T, .int .u8 (y : Int), .slice A m c] 33)).drewN nq) q g n L lf wr gone from fun nq => Bxs.keep h1 rfl rfl)
  have HK := Lib.hid (show ∀ nq, K2 w ((w.alloc (.cells #[.int .i64 1, .int .i64 N, .int .i64 T, .int .u8 (y : Int), .slice A m c] 33)).drewN nq) q g from fun nq => ⟨hb.os, hb.tape, hb.output, hb.size, fun k hk _ _ => hb.block k hk⟩)
  have hN := hs_no hN0
  have hws : (IntKind.i64.wrap ((n : Int)) = (n : Int) ∧ wrap64 ((n : Int)) = (n : Int)) := i64w _ _ (by omega) (by omega) (by omega)
  obtain ⟨hwa0, hwb0⟩ := hws
  clear h h1 hb hM hn hN0
  by_cases h0 : 0 ≤ N
  · have t0 : decide (0 ≤ N) = true := by simpa using h0
    have t1 : decide (N < (n : Int)) = false := decide_eq_false (fun h => hN ⟨h0, h⟩)
    have t2 : ¬ N < (n : Int) := fun h => hN ⟨h0, h⟩
    clear hN
    go_enter Try.func11, Try.ntmps11
    go_wp2
    go_quiet (fail)
    go_wp2
    go_ret3
    exact ⟨rfl, HB.out.os, HB.out.tape, HB.out.output, HB.out.size, HB.out.block⟩
  · have t0 : decide (0 ≤ N) = false := by simpa using h0
    clear hN
    go_enter Try.func11, Try.ntmps11
    go_wp2
    go_quiet (fail)
    go_wp2
    go_ret3
    exact ⟨rfl, HB.out.os, HB.out.tape, HB.out.output, HB.out.size, HB.out.block⟩
set_option maxRecDepth 100000 in
theorem fdo_arg32 (q g n : Nat) (L : List Nat) (lf : Int) (wr : Nat) (gone : Bool) (k : Nat) (T : Int) (h : Df w q g n L lf wr gone) (hk : k < n) (hm : m ≠ 32) :
    Calls Try.prog 11 #[.pointer (some ⟨q, 0, none⟩), .agg #[.int .i64 1, .int .i64 (k : Int), .int .i64 T, .int .u8 (y : Int), .slice A m c]] w fun e w' => e = .returned (.tuple #[.int .i64 1, .string ⟨#[]⟩, .bool false]) ∧ Below w.heap.size w w' := by
  obtain ⟨M, hM⟩ : ∃ M, M = 32 * n := ⟨_, rfl⟩
  have hb : Below w.heap.size w (w.alloc (.cells #[.int .i64 1, .int .i64 (k : Int), .int .i64 T, .int .u8 (y : Int), .slice A m c] 33)) := (Below.refl _ w).alloc (Nat.le_refl _) _
  have h1 : Df (w.alloc (.cells #[.int .i64 1, .int .i64 (k : Int), .int .i64 T, .int .u8 (y : Int), .slice A m c] 33)) q g n L lf wr gone := Bxs.below h hb (Nat.le_refl _)
  have c0 : (w.alloc (.cells #[.int .i64 1, .int .i64 (k : Int), .int .i64 T, .int .u8 (y : Int), .slice A m c] 33)).cell? ⟨q, 0, none⟩ = some (.slice (some ⟨g, 0, none⟩) M M) := by rw [hM]; exact h1.cell 0
  have c1 : (w.alloc (.cells #[.int .i64 1, .int .i64 (k : Int), .int .i64 T, .int .u8 (y : Int), .slice A m c] 33)).cell? ⟨q, 1, none⟩ = some (.int .i64 lf) := h1.cell 1
  have c2 : (w.alloc (.cells #[.int .i64 1, .int .i64 (k : Int), .int .i64 T, .int .u8 (y : Int), .slice A m c] 33)).cell? ⟨q, 2, none⟩ = some (.int .i64 (wr : Int)) := h1.cell 2
  have c3 : (w.alloc (.cells #[.int .i64 1, .int .i64 (k : Int), .int .i64 T, .int .u8 (y : Int), .slice A m c] 33)).cell? ⟨q, 3, none⟩ = some (.bool gone) := h1.cell 3
  have f1 := h1.fr 1
  have f2 := h1.fr 2
  have f3 := h1.fr 3
  have hn := h.few
  have hq : ((M : Int) / 32) = (n : Int) := by omega
  have HB := Lib.hid hb
  have HD := Lib.hid (show ∀ nq, Df ((w.alloc (.cells #[.int .i64 1, .int .i64 (k : Int), .int .i64 T, .int .u8 (y : Int), .slice A m c] 33)).drewN nq) q g n L lf wr gone from fun nq => Bxs.keep h1 rfl rfl)
  have HK := Lib.hid (show ∀ nq, K2 w ((w.alloc (.cells #[.int .i64 1, .int .i64 (k : Int), .int .i64 T, .int .u8 (y : Int), .slice A m c] 33)).drewN nq) q g from fun nq => ⟨hb.os, hb.tape, hb.output, hb.size, fun k hk _ _ => hb.block k hk⟩)
  have hkn : (k : Int) < (n : Int) := Int.ofNat_lt.2 hk
  have t0 : decide ((0 : Int) ≤ (k : Int)) = true := decide_eq_true (Int.natCast_nonneg k)
  have t1 : decide ((k : Int) < (n : Int)) = true := decide_eq_true hkn
  have hne : ((m : Int) != 32) = true := by simp; omega
  have hws : (IntKind.i64.wrap ((n : Int)) = (n : Int) ∧ wrap64 ((n : Int)) = (n : Int)) := i64w _ _ (by omega) (by omega) (by omega)
  obtain ⟨hwa0, hwb0⟩ := hws
  clear h h1 hb hM hn hk hm
  go_enter Try.func11, Try.ntmps11
  go_wp2
  go_quiet (fail)
  go_wp2
  go_ret3
  exact ⟨rfl, HB.out.os, HB.out.tape, HB.out.output, HB.out.size, HB.out.block⟩
set_option maxRecDepth 100000 in
theorem fdo_down (q g n : Nat) (L : List Nat) (lf : Int) (wr : Nat) (k : Nat) (T : Int) (h : Df w q g n L lf wr true) (hk : k < n) (hl : lf ≠ 0) :
    Calls Try.prog 11 #[.pointer (some ⟨q, 0, none⟩), .agg #[.int .i64 1, .int .i64 (k : Int), .int .i64 T, .int .u8 (y : Int), .slice A 32 c]] w fun e w' => e = .returned (.tuple #[.int .i64 3, .string ⟨#[]⟩, .bool false]) ∧ Below w.heap.size w w' := by
  obtain ⟨M, hM⟩ : ∃ M, M = 32 * n := ⟨_, rfl⟩
  have hb : Below w.heap.size w (w.alloc (.cells #[.int .i64 1, .int .i64 (k : Int), .int .i64 T, .int .u8 (y : Int), .slice A 32 c] 33)) := (Below.refl _ w).alloc (Nat.le_refl _) _
  have h1 : Df (w.alloc (.cells #[.int .i64 1, .int .i64 (k : Int), .int .i64 T, .int .u8 (y : Int), .slice A 32 c] 33)) q g n L lf wr true := Bxs.below h hb (Nat.le_refl _)
  have c0 : (w.alloc (.cells #[.int .i64 1, .int .i64 (k : Int), .int .i64 T, .int .u8 (y : Int), .slice A 32 c] 33)).cell? ⟨q, 0, none⟩ = some (.slice (some ⟨g, 0, none⟩) M M) := by rw [hM]; exact h1.cell 0
  have c1 : (w.alloc (.cells #[.int .i64 1, .int .i64 (k : Int), .int .i64 T, .int .u8 (y : Int), .slice A 32 c] 33)).cell? ⟨q, 1, none⟩ = some (.int .i64 lf) := h1.cell 1
  have c2 : (w.alloc (.cells #[.int .i64 1, .int .i64 (k : Int), .int .i64 T, .int .u8 (y : Int), .slice A 32 c] 33)).cell? ⟨q, 2, none⟩ = some (.int .i64 (wr : Int)) := h1.cell 2
  have c3 : (w.alloc (.cells #[.int .i64 1, .int .i64 (k : Int), .int .i64 T, .int .u8 (y : Int), .slice A 32 c] 33)).cell? ⟨q, 3, none⟩ = some (.bool true) := h1.cell 3
  have f1 := h1.fr 1
  have f2 := h1.fr 2
  have f3 := h1.fr 3
  have hn := h.few
  have hq : ((M : Int) / 32) = (n : Int) := by omega
  have HB := Lib.hid hb
  have HD := Lib.hid (show ∀ nq, Df ((w.alloc (.cells #[.int .i64 1, .int .i64 (k : Int), .int .i64 T, .int .u8 (y : Int), .slice A 32 c] 33)).drewN nq) q g n L lf wr true from fun nq => Bxs.keep h1 rfl rfl)
  have HK := Lib.hid (show ∀ nq, K2 w ((w.alloc (.cells #[.int .i64 1, .int .i64 (k : Int), .int .i64 T, .int .u8 (y : Int), .slice A 32 c] 33)).drewN nq) q g from fun nq => ⟨hb.os, hb.tape, hb.output, hb.size, fun k hk _ _ => hb.block k hk⟩)
  have hkn : (k : Int) < (n : Int) := Int.ofNat_lt.2 hk
  have t0 : decide ((0 : Int) ≤ (k : Int)) = true := decide_eq_true (Int.natCast_nonneg k)
  have t1 : decide ((k : Int) < (n : Int)) = true := decide_eq_true hkn
  have hne : (lf == 0) = false := by simpa using hl
  have hws : (IntKind.i64.wrap ((n : Int)) = (n : Int) ∧ wrap64 ((n : Int)) = (n : Int)) := i64w _ _ (by omega) (by omega) (by omega)
  obtain ⟨hwa0, hwb0⟩ := hws
  clear h h1 hb hM hn hk hl
  go_enter Try.func11, Try.ntmps11
  go_wp2
  go_quiet (fail)
  go_wp2
  go_ret3
  exact ⟨rfl, HB.out.os, HB.out.tape, HB.out.output, HB.out.size, HB.out.block⟩
set_option maxRecDepth 100000 in
theorem fdo_goes (q g n : Nat) (L : List Nat) (wr : Nat) (gone : Bool) (k : Nat) (T : Int) (h : Df w q g n L 0 wr gone) (hk : k < n) :
    Calls Try.prog 11 #[.pointer (some ⟨q, 0, none⟩), .agg #[.int .i64 1, .int .i64 (k : Int), .int .i64 T, .int .u8 (y : Int), .slice A 32 c]] w fun e w' => e = .returned (.tuple #[.int .i64 3, .string ⟨#[]⟩, .bool false]) ∧ Df w' q g n L 0 wr true ∧ K2 w w' q g := by
  obtain ⟨M, hM⟩ : ∃ M, M = 32 * n := ⟨_, rfl⟩
  have hb : Below w.heap.size w (w.alloc (.cells #[.int .i64 1, .int .i64 (k : Int), .int .i64 T, .int .u8 (y : Int), .slice A 32 c] 33)) := (Below.refl _ w).alloc (Nat.le_refl _) _
  have h1 : Df (w.alloc (.cells #[.int .i64 1, .int .i64 (k : Int), .int .i64 T, .int .u8 (y : Int), .slice A 32 c] 33)) q g n L 0 wr gone := Bxs.below h hb (Nat.le_refl _)
  have c0 : (w.alloc (.cells #[.int .i64 1, .int .i64 (k : Int), .int .i64 T, .int .u8 (y : Int), .slice A 32 c] 33)).cell? ⟨q, 0, none⟩ = some (.slice (some ⟨g, 0, none⟩) M M) := by rw [hM]; exact h1.cell 0
  have c1 : (w.alloc (.cells #[.int .i64 1, .int .i64 (k : Int), .int .i64 T, .int .u8 (y : Int), .slice A 32 c] 33)).cell? ⟨q, 1, none⟩ = some (.int .i64 0) := h1.cell 1
  have c2 : (w.alloc (.cells #[.int .i64 1, .int .i64 (k : Int), .int .i64 T, .int .u8 (y : Int), .slice A 32 c] 33)).cell? ⟨q, 2, none⟩ = some (.int .i64 (wr : Int)) := h1.cell 2
  have c3 : (w.alloc (.cells #[.int .i64 1, .int .i64 (k : Int), .int .i64 T, .int .u8 (y : Int), .slice A 32 c] 33)).cell? ⟨q, 3, none⟩ = some (.bool gone) := h1.cell 3
  have f1 := h1.fr 1
  have f2 := h1.fr 2
  have f3 := h1.fr 3
  have hn := h.few
  have hq : ((M : Int) / 32) = (n : Int) := by omega
  have HB := Lib.hid hb
  have HD := Lib.hid (show ∀ nq, Df ((w.alloc (.cells #[.int .i64 1, .int .i64 (k : Int), .int .i64 T, .int .u8 (y : Int), .slice A 32 c] 33)).drewN nq) q g n L 0 wr gone from fun nq => Bxs.keep h1 rfl rfl)
  have HK := Lib.hid (show ∀ nq, K2 w ((w.alloc (.cells #[.int .i64 1, .int .i64 (k : Int), .int .i64 T, .int .u8 (y : Int), .slice A 32 c] 33)).drewN nq) q g from fun nq => ⟨hb.os, hb.tape, hb.output, hb.size, fun k hk _ _ => hb.block k hk⟩)
  have hkn : (k : Int) < (n : Int) := Int.ofNat_lt.2 hk
  have t0 : decide ((0 : Int) ≤ (k : Int)) = true := decide_eq_true (Int.natCast_nonneg k)
  have t1 : decide ((k : Int) < (n : Int)) = true := decide_eq_true hkn
  have hws : (IntKind.i64.wrap ((n : Int)) = (n : Int) ∧ wrap64 ((n : Int)) = (n : Int)) := i64w _ _ (by omega) (by omega) (by omega)
  obtain ⟨hwa0, hwb0⟩ := hws
  clear h h1 hb hM hn hk
  go_enter Try.func11, Try.ntmps11
  go_wp2
  go_quiet (fail)
  go_wp2
  go_ret3
  exact ⟨rfl, Bxs.set (HD.out nq) 3 (.bool true), (HK.out nq).sm (K2.set _ q g 3 _)⟩
set_option maxRecDepth 100000 in
theorem fdo_ok (q g n : Nat) (L : List Nat) (wr : Nat) (k : Nat) (T : Int) (B : Nat) (b : List Nat) (h : Df w q g n L (-1) wr false) (hk : k < n) (hb0 : Sl w B A b) (hBq : B ≤ q) (hBg : B ≤ g) (hl : b.length = 32) (hw : wr < 4611686018427387904) :
    Calls Try.prog 11 #[.pointer (some ⟨q, 0, none⟩), .agg #[.int .i64 1, .int .i64 (k : Int), .int .i64 T, .int .u8 (y : Int), .slice A 32 c]] w fun e w' => e = .returned (.tuple #[.int .i64 0, .string ⟨#[]⟩, .bool false]) ∧ Df w' q g n (laid L (k * 32) b) (-1) (wr + 1) false ∧ K2 w w' q g := by
  obtain ⟨M, hM⟩ : ∃ M, M = 32 * n := ⟨_, rfl⟩
  have hb : Below w.heap.size w (w.alloc (.cells #[.int .i64 1, .int .i64 (k : Int), .int .i64 T, .int .u8 (y : Int), .slice A 32 c] 33)) := (Below.refl _ w).alloc (Nat.le_refl _) _
  have h1 : Df (w.alloc (.cells #[.int .i64 1, .int .i64 (k : Int), .int .i64 T, .int .u8 (y : Int), .slice A 32 c] 33)) q g n L (-1) wr false := Bxs.below h hb (Nat.le_refl _)
  have c0 : (w.alloc (.cells #[.int .i64 1, .int .i64 (k : Int), .int .i64 T, .int .u8 (y : Int), .slice A 32 c] 33)).cell? ⟨q, 0, none⟩ = some (.slice (some ⟨g, 0, none⟩) M M) := by rw [hM]; exact h1.cell 0
  have c1 : (w.alloc (.cells #[.int .i64 1, .int .i64 (k : Int), .int .i64 T, .int .u8 (y : Int), .slice A 32 c] 33)).cell? ⟨q, 1, none⟩ = some (.int .i64 (-1)) := h1.cell 1
  have c2 : (w.alloc (.cells #[.int .i64 1, .int .i64 (k : Int), .int .i64 T, .int .u8 (y : Int), .slice A 32 c] 33)).cell? ⟨q, 2, none⟩ = some (.int .i64 (wr : Int)) := h1.cell 2
  have c3 : (w.alloc (.cells #[.int .i64 1, .int .i64 (k : Int), .int .i64 T, .int .u8 (y : Int), .slice A 32 c] 33)).cell? ⟨q, 3, none⟩ = some (.bool false) := h1.cell 3
  have f1 := h1.fr 1
  have f2 := h1.fr 2
  have f3 := h1.fr 3
  have hn := h.few
  have hq : ((M : Int) / 32) = (n : Int) := by omega
  have HB := Lib.hid hb
  have HD := Lib.hid (show ∀ nq, Df ((w.alloc (.cells #[.int .i64 1, .int .i64 (k : Int), .int .i64 T, .int .u8 (y : Int), .slice A 32 c] 33)).drewN nq) q g n L (-1) wr false from fun nq => Bxs.keep h1 rfl rfl)
  have HK := Lib.hid (show ∀ nq, K2 w ((w.alloc (.cells #[.int .i64 1, .int .i64 (k : Int), .int .i64 T, .int .u8 (y : Int), .slice A 32 c] 33)).drewN nq) q g from fun nq => ⟨hb.os, hb.tape, hb.output, hb.size, fun k hk _ _ => hb.block k hk⟩)
  have hkn : (k : Int) < (n : Int) := Int.ofNat_lt.2 hk
  have t0 : decide ((0 : Int) ≤ (k : Int)) = true := decide_eq_true (Int.natCast_nonneg k)
  have t1 : decide ((k : Int) < (n : Int)) = true := decide_eq_true hkn
  have hL := h.len
  obtain ⟨o, ho⟩ : ∃ o, o = k * 32 := ⟨_, rfl⟩
  have hoM : (o : Int) < (M : Int) := by omega
  have hoM2 : o < M := by omega
  have HoM := Lib.hid hoM2
  have HM := Lib.hid hM
  have HDS := Lib.hid (show ∀ nq, Df (((w.alloc (.cells #[.int .i64 1, .int .i64 (k : Int), .int .i64 T, .int .u8 (y : Int), .slice A 32 c] 33)).drewN nq).setCell ⟨q, 2, none⟩ (.int .i64 ((wr : Int) + 1))) q g n L (-1) (wr + 1) false from fun nq => Bxs.set (HD.out nq) 2 _)
  have HKS := Lib.hid (show ∀ nq, K2 w (((w.alloc (.cells #[.int .i64 1, .int .i64 (k : Int), .int .i64 T, .int .u8 (y : Int), .slice A 32 c] 33)).drewN nq).setCell ⟨q, 2, none⟩ (.int .i64 ((wr : Int) + 1))) q g from fun nq => (HK.out nq).sm (K2.set _ q g 2 _))
  have hqne : w.heap.size ≠ q := by have := h.plt; omega
  have HOP := Lib.hid (show ∀ nq j v, (#[.int .i64 1, .int .i64 (k : Int), .int .i64 T, .int .u8 (y : Int), .slice A 32 c] : Array Value)[j]? = some v → (((w.alloc (.cells #[.int .i64 1, .int .i64 (k : Int), .int .i64 T, .int .u8 (y : Int), .slice A 32 c] 33)).drewN nq).setCell ⟨q, 2, none⟩ (.int .i64 ((wr : Int) + 1))).cell? ⟨w.heap.size, j, none⟩ = some v from fun nq j v hv => by
    rw [cell_heap (show (((w.alloc (.cells #[.int .i64 1, .int .i64 (k : Int), .int .i64 T, .int .u8 (y : Int), .slice A 32 c] 33)).drewN nq).setCell ⟨q, 2, none⟩ (.int .i64 ((wr : Int) + 1))).heap[w.heap.size]? = (w.alloc (.cells #[.int .i64 1, .int .i64 (k : Int), .int .i64 T, .int .u8 (y : Int), .slice A 32 c] 33)).heap[w.heap.size]? from heap_set_other _ q 2 _ _ hqne)]
    exact (World.cell?_alloc_new w _ _ j).trans hv)
  have HCP := Lib.hid (show ∀ X, Df X q g n L (-1) (wr + 1) false → K2 w X q g → ∃ w2, (Builtin.copy_ #[28, 28] 3 #[.slice (some ⟨g, o, none⟩) (M - o) (M - o), .slice A 32 c]).run Try.prog X.drew = .ok (.int .i64 32) w2 ∧ Df w2 q g n (laid L (k * 32) b) (-1) (wr + 1) false ∧ K2 w w2 q g from fun X hd hk => by
    have hd2 : Df X.drew q g n L (-1) (wr + 1) false := Bxs.keep hd rfl rfl
    have hk2 : K2 w X.drew q g := ⟨hk.os, hk.tape, hk.output, hk.size, hk.block⟩
    obtain ⟨w2, r1, r2, r3⟩ := run_copyK (P := Try.prog) 28 3 5 Try.underlying28 (by kernel_rfl) g o (M - o) (M - o) 32 c (Sl.keepq hb0 hk2 hBq hBg) hd2.row hl.symm (by omega) (by omega)
    rw [ho] at r2
    exact ⟨w2, r1, Bxs.lay hd2 r3 r2 (laid_len (by omega)) (laid_bb h.bb hb0.bb), hk2.sm (K2.grown r3 (.inr rfl))⟩)
  have hws : (IntKind.i64.wrap ((n : Int)) = (n : Int) ∧ wrap64 ((n : Int)) = (n : Int)) ∧ (IntKind.i64.wrap ((wr : Int) + 1) = (wr : Int) + 1 ∧ wrap64 ((wr : Int) + 1) = (wr : Int) + 1) ∧ (IntKind.i64.wrap ((k : Int) * 32) = (o : Int) ∧ wrap64 ((k : Int) * 32) = (o : Int)) := ⟨i64w _ _ (by omega) (by omega) (by omega), i64w _ _ (by omega) (by omega) (by omega), i64w _ _ (by omega) (by omega) (by omega)⟩
  obtain ⟨⟨hwa0, hwb0⟩, ⟨hwa1, hwb1⟩, ⟨hwa2, hwb2⟩⟩ := hws
  clear h h1 hb hM hn hk hb0 hBq hBg hl hw hL ho hoM2 hqne
  go_enter Try.func11, Try.ntmps11
  go_wp2
  go_quiet (fail)
  go_wp2
  obtain ⟨X, hX⟩ : ∃ X, X = ((w.alloc (.cells #[.int .i64 1, .int .i64 (k : Int), .int .i64 T, .int .u8 (y : Int), .slice A 32 c] 33)).drewN nq).setCell ⟨q, 2, none⟩ (.int .i64 ((wr : Int) + 1)) := ⟨_, rfl⟩
  have hd : Df X q g n L (-1) (wr + 1) false := by rw [hX]; exact HDS.out nq
  have hk : K2 w X q g := by rw [hX]; exact HKS.out nq
  have x0 : X.cell? ⟨q, 0, none⟩ = some (.slice (some ⟨g, 0, none⟩) M M) := by rw [HM.out]; exact hd.cell 0
  have x1 : X.cell? ⟨w.heap.size, 1, none⟩ = some (.int .i64 (k : Int)) := by rw [hX]; exact HOP.out nq 1 _ rfl
  have x4 : X.cell? ⟨w.heap.size, 4, none⟩ = some (.slice A 32 c) := by rw [hX]; exact HOP.out nq 4 _ rfl
  obtain ⟨w2, hcp, hd2, hk2⟩ := HCP.out X hd hk
  have HD2 := Lib.hid hd2
  have HK2 := Lib.hid hk2
  clear hd2 hk2 hd hk
  rw [← hX]
  clear hX
  have hsl := slice_l_at g M o HoM.out
  go_still_tail 10, (by kernel_rfl)
  change wpList _ _ _ _ _ X.drew
  go_wp2
  go_ret3
  exact ⟨rfl, HD2.out, HK2.out⟩
set_option maxRecDepth 100000 in
theorem fdo_lets (q g n : Nat) (L : List Nat) (wr : Nat) (k : Nat) (T : Int) (B : Nat) (b : List Nat) (z : Nat) (Z : Int) (h : Df w q g n L Z wr false) (hk : k < n) (hb0 : Sl w B A b) (hBq : B ≤ q) (hBg : B ≤ g) (hl : b.length = 32) (hw : wr < 4611686018427387904) (hZ : Z = (z : Int) + 1) (hz : (z : Int) < 9223372036854775807) :
    Calls Try.prog 11 #[.pointer (some ⟨q, 0, none⟩), .agg #[.int .i64 1, .int .i64 (k : Int), .int .i64 T, .int .u8 (y : Int), .slice A 32 c]] w fun e w' => e = .returned (.tuple #[.int .i64 0, .string ⟨#[]⟩, .bool false]) ∧ Df w' q g n (laid L (k * 32) b) (z : Int) (wr + 1) false ∧ K2 w w' q g := by
  obtain ⟨M, hM⟩ : ∃ M, M = 32 * n := ⟨_, rfl⟩
  have hb : Below w.heap.size w (w.alloc (.cells #[.int .i64 1, .int .i64 (k : Int), .int .i64 T, .int .u8 (y : Int), .slice A 32 c] 33)) := (Below.refl _ w).alloc (Nat.le_refl _) _
  have h1 : Df (w.alloc (.cells #[.int .i64 1, .int .i64 (k : Int), .int .i64 T, .int .u8 (y : Int), .slice A 32 c] 33)) q g n L Z wr false := Bxs.below h hb (Nat.le_refl _)
  have c0 : (w.alloc (.cells #[.int .i64 1, .int .i64 (k : Int), .int .i64 T, .int .u8 (y : Int), .slice A 32 c] 33)).cell? ⟨q, 0, none⟩ = some (.slice (some ⟨g, 0, none⟩) M M) := by rw [hM]; exact h1.cell 0
  have c1 : (w.alloc (.cells #[.int .i64 1, .int .i64 (k : Int), .int .i64 T, .int .u8 (y : Int), .slice A 32 c] 33)).cell? ⟨q, 1, none⟩ = some (.int .i64 Z) := h1.cell 1
  have c2 : (w.alloc (.cells #[.int .i64 1, .int .i64 (k : Int), .int .i64 T, .int .u8 (y : Int), .slice A 32 c] 33)).cell? ⟨q, 2, none⟩ = some (.int .i64 (wr : Int)) := h1.cell 2
  have c3 : (w.alloc (.cells #[.int .i64 1, .int .i64 (k : Int), .int .i64 T, .int .u8 (y : Int), .slice A 32 c] 33)).cell? ⟨q, 3, none⟩ = some (.bool false) := h1.cell 3
  have f1 := h1.fr 1
  have f2 := h1.fr 2
  have f3 := h1.fr 3
  have hn := h.few
  have hq : ((M : Int) / 32) = (n : Int) := by omega
  have HB := Lib.hid hb
  have HD := Lib.hid (show ∀ nq, Df ((w.alloc (.cells #[.int .i64 1, .int .i64 (k : Int), .int .i64 T, .int .u8 (y : Int), .slice A 32 c] 33)).drewN nq) q g n L Z wr false from fun nq => Bxs.keep h1 rfl rfl)
  have HK := Lib.hid (show ∀ nq, K2 w ((w.alloc (.cells #[.int .i64 1, .int .i64 (k : Int), .int .i64 T, .int .u8 (y : Int), .slice A 32 c] 33)).drewN nq) q g from fun nq => ⟨hb.os, hb.tape, hb.output, hb.size, fun k hk _ _ => hb.block k hk⟩)
  have hz0 := z_ne z Z hZ
  have hz1 := z_pos z Z hZ
  have HWZ := Lib.hid (z_wrap z Z hZ hz)
  clear hz hZ
  have hkn : (k : Int) < (n : Int) := Int.ofNat_lt.2 hk
  have t0 : decide ((0 : Int) ≤ (k : Int)) = true := decide_eq_true (Int.natCast_nonneg k)
  have t1 : decide ((k : Int) < (n : Int)) = true := decide_eq_true hkn
  have hL := h.len
  obtain ⟨o, ho⟩ : ∃ o, o = k * 32 := ⟨_, rfl⟩
  have hoM : (o : Int) < (M : Int) := by omega
  have hoM2 : o < M := by omega
  have HoM := Lib.hid hoM2
  have HM := Lib.hid hM
  have HDS := Lib.hid (show ∀ nq, Df ((((w.alloc (.cells #[.int .i64 1, .int .i64 (k : Int), .int .i64 T, .int .u8 (y : Int), .slice A 32 c] 33)).drewN nq).setCell ⟨q, 1, none⟩ (.int .i64 (z : Int))).setCell ⟨q, 2, none⟩ (.int .i64 ((wr : Int) + 1))) q g n L (z : Int) (wr + 1) false from fun nq => Bxs.set (Bxs.set (HD.out nq) 1 _) 2 _)
  have HKS := Lib.hid (show ∀ nq, K2 w ((((w.alloc (.cells #[.int .i64 1, .int .i64 (k : Int), .int .i64 T, .int .u8 (y : Int), .slice A 32 c] 33)).drewN nq).setCell ⟨q, 1, none⟩ (.int .i64 (z : Int))).setCell ⟨q, 2, none⟩ (.int .i64 ((wr : Int) + 1))) q g from fun nq => ((HK.out nq).sm (K2.set _ q g 1 _)).sm (K2.set _ q g 2 _))
  have hqne : w.heap.size ≠ q := by have := h.plt; omega
  have HOP := Lib.hid (show ∀ nq j v, (#[.int .i64 1, .int .i64 (k : Int), .int .i64 T, .int .u8 (y : Int), .slice A 32 c] : Array Value)[j]? = some v → ((((w.alloc (.cells #[.int .i64 1, .int .i64 (k : Int), .int .i64 T, .int .u8 (y : Int), .slice A 32 c] 33)).drewN nq).setCell ⟨q, 1, none⟩ (.int .i64 (z : Int))).setCell ⟨q, 2, none⟩ (.int .i64 ((wr : Int) + 1))).cell? ⟨w.heap.size, j, none⟩ = some v from fun nq j v hv => by
    rw [cell_heap (show ((((w.alloc (.cells #[.int .i64 1, .int .i64 (k : Int), .int .i64 T, .int .u8 (y : Int), .slice A 32 c] 33)).drewN nq).setCell ⟨q, 1, none⟩ (.int .i64 (z : Int))).setCell ⟨q, 2, none⟩ (.int .i64 ((wr : Int) + 1))).heap[w.heap.size]? = (w.alloc (.cells #[.int .i64 1, .int .i64 (k : Int), .int .i64 T, .int .u8 (y : Int), .slice A 32 c] 33)).heap[w.heap.size]? from (heap_set_other _ q 2 _ _ hqne).trans (heap_set_other _ q 1 _ _ hqne))]
    exact (World.cell?_alloc_new w _ _ j).trans hv)
  have HCP := Lib.hid (show ∀ X, Df X q g n L (z : Int) (wr + 1) false → K2 w X q g → ∃ w2, (Builtin.copy_ #[28, 28] 3 #[.slice (some ⟨g, o, none⟩) (M - o) (M - o), .slice A 32 c]).run Try.prog X.drew = .ok (.int .i64 32) w2 ∧ Df w2 q g n (laid L (k * 32) b) (z : Int) (wr + 1) false ∧ K2 w w2 q g from fun X hd hk => by
    have hd2 : Df X.drew q g n L (z : Int) (wr + 1) false := Bxs.keep hd rfl rfl
    have hk2 : K2 w X.drew q g := ⟨hk.os, hk.tape, hk.output, hk.size, hk.block⟩
    obtain ⟨w2, r1, r2, r3⟩ := run_copyK (P := Try.prog) 28 3 5 Try.underlying28 (by kernel_rfl) g o (M - o) (M - o) 32 c (Sl.keepq hb0 hk2 hBq hBg) hd2.row hl.symm (by omega) (by omega)
    rw [ho] at r2
    exact ⟨w2, r1, Bxs.lay hd2 r3 r2 (laid_len (by omega)) (laid_bb h.bb hb0.bb), hk2.sm (K2.grown r3 (.inr rfl))⟩)
  have hws : (IntKind.i64.wrap ((n : Int)) = (n : Int) ∧ wrap64 ((n : Int)) = (n : Int)) ∧ (IntKind.i64.wrap ((wr : Int) + 1) = (wr : Int) + 1 ∧ wrap64 ((wr : Int) + 1) = (wr : Int) + 1) ∧ (IntKind.i64.wrap ((k : Int) * 32) = (o : Int) ∧ wrap64 ((k : Int) * 32) = (o : Int)) := ⟨i64w _ _ (by omega) (by omega) (by omega), i64w _ _ (by omega) (by omega) (by omega), i64w _ _ (by omega) (by omega) (by omega)⟩
  obtain ⟨⟨hwa0, hwb0⟩, ⟨hwa1, hwb1⟩, ⟨hwa2, hwb2⟩⟩ := hws
  clear h h1 hb hM hn hk hb0 hBq hBg hl hw hL ho hoM2 hqne
  have hwz := HWZ.out
  go_enter Try.func11, Try.ntmps11
  go_wp2
  go_quiet (fail)
  go_wp2
  obtain ⟨X, hX⟩ : ∃ X, X = (((w.alloc (.cells #[.int .i64 1, .int .i64 (k : Int), .int .i64 T, .int .u8 (y : Int), .slice A 32 c] 33)).drewN nq).setCell ⟨q, 1, none⟩ (.int .i64 (z : Int))).setCell ⟨q, 2, none⟩ (.int .i64 ((wr : Int) + 1)) := ⟨_, rfl⟩
  have hd : Df X q g n L (z : Int) (wr + 1) false := by rw [hX]; exact HDS.out nq
  have hk : K2 w X q g := by rw [hX]; exact HKS.out nq
  have x0 : X.cell? ⟨q, 0, none⟩ = some (.slice (some ⟨g, 0, none⟩) M M) := by rw [HM.out]; exact hd.cell 0
  have x1 : X.cell? ⟨w.heap.size, 1, none⟩ = some (.int .i64 (k : Int)) := by rw [hX]; exact HOP.out nq 1 _ rfl
  have x4 : X.cell? ⟨w.heap.size, 4, none⟩ = some (.slice A 32 c) := by rw [hX]; exact HOP.out nq 4 _ rfl
  obtain ⟨w2, hcp, hd2, hk2⟩ := HCP.out X hd hk
  have HD2 := Lib.hid hd2
  have HK2 := Lib.hid hk2
  clear hd2 hk2 hd hk
  rw [← hX]
  clear hX
  have hsl := slice_l_at g M o HoM.out
  go_still_tail 10, (by kernel_rfl)
  change wpList _ _ _ _ _ X.drew
  go_wp2
  go_ret3
  exact ⟨rfl, HD2.out, HK2.out⟩
set_option maxRecDepth 100000 in
theorem fdo_rno (q g n : Nat) (L : List Nat) (lf : Int) (wr : Nat) (gone : Bool) (N T : Int) (h : Df w q g n L lf wr gone) (hN0 : hs n N = false) :
    Calls Try.prog 11 #[.pointer (some ⟨q, 0, none⟩), .agg #[.int .i64 2, .int .i64 N, .int .i64 T, .int .u8 (y : Int), .slice A m c]] w fun e w' => e = .returned (.tuple #[.int .i64 0, .string ⟨#[]⟩, .bool false]) ∧ Below w.heap.size w w' := by
  obtain ⟨M, hM⟩ : ∃ M, M = 32 * n := ⟨_, rfl⟩
  have hb : Below w.heap.size w (w.alloc (.cells #[.int .i64 2, .int .i64 N, .int .i64 T, .int .u8 (y : Int), .slice A m c] 33)) := (Below.refl _ w).alloc (Nat.le_refl _) _
  have h1 : Df (w.alloc (.cells #[.int .i64 2, .int .i64 N, .int .i64 T, .int .u8 (y : Int), .slice A m c] 33)) q g n L lf wr gone := Bxs.below h hb (Nat.le_refl _)
  have c0 : (w.alloc (.cells #[.int .i64 2, .int .i64 N, .int .i64 T, .int .u8 (y : Int), .slice A m c] 33)).cell? ⟨q, 0, none⟩ = some (.slice (some ⟨g, 0, none⟩) M M) := by rw [hM]; exact h1.cell 0
  have c1 : (w.alloc (.cells #[.int .i64 2, .int .i64 N, .int .i64 T, .int .u8 (y : Int), .slice A m c] 33)).cell? ⟨q, 1, none⟩ = some (.int .i64 lf) := h1.cell 1
  have c2 : (w.alloc (.cells #[.int .i64 2, .int .i64 N, .int .i64 T, .int .u8 (y : Int), .slice A m c] 33)).cell? ⟨q, 2, none⟩ = some (.int .i64 (wr : Int)) := h1.cell 2
  have c3 : (w.alloc (.cells #[.int .i64 2, .int .i64 N, .int .i64 T, .int .u8 (y : Int), .slice A m c] 33)).cell? ⟨q, 3, none⟩ = some (.bool gone) := h1.cell 3
  have f1 := h1.fr 1
  have f2 := h1.fr 2
  have f3 := h1.fr 3
  have hn := h.few
  have hq : ((M : Int) / 32) = (n : Int) := by omega
  have HB := Lib.hid hb
  have HD := Lib.hid (show ∀ nq, Df ((w.alloc (.cells #[.int .i64 2, .int .i64 N, .int .i64 T, .int .u8 (y : Int), .slice A m c] 33)).drewN nq) q g n L lf wr gone from fun nq => Bxs.keep h1 rfl rfl)
  have HK := Lib.hid (show ∀ nq, K2 w ((w.alloc (.cells #[.int .i64 2, .int .i64 N, .int .i64 T, .int .u8 (y : Int), .slice A m c] 33)).drewN nq) q g from fun nq => ⟨hb.os, hb.tape, hb.output, hb.size, fun k hk _ _ => hb.block k hk⟩)
  have hN := hs_no hN0
  have hws : (IntKind.i64.wrap ((n : Int)) = (n : Int) ∧ wrap64 ((n : Int)) = (n : Int)) := i64w _ _ (by omega) (by omega) (by omega)
  obtain ⟨hwa0, hwb0⟩ := hws
  clear h h1 hb hM hn hN0
  by_cases h0 : 0 ≤ N
  · have t0 : decide (0 ≤ N) = true := by simpa using h0
    have t1 : decide (N < (n : Int)) = false := decide_eq_false (fun h => hN ⟨h0, h⟩)
    have t2 : ¬ N < (n : Int) := fun h => hN ⟨h0, h⟩
    clear hN
    go_enter Try.func11, Try.ntmps11
    go_wp2
    go_quiet (fail)
    go_wp2
    go_ret3
    exact ⟨rfl, HB.out.os, HB.out.tape, HB.out.output, HB.out.size, HB.out.block⟩
  · have t0 : decide (0 ≤ N) = false := by simpa using h0
    clear hN
    go_enter Try.func11, Try.ntmps11
    go_wp2
    go_quiet (fail)
    go_wp2
    go_ret3
    exact ⟨rfl, HB.out.os, HB.out.tape, HB.out.output, HB.out.size, HB.out.block⟩
set_option maxRecDepth 100000 in
theorem fdo_read (q g n : Nat) (L : List Nat) (lf : Int) (wr : Nat) (gone : Bool) (k : Nat) (T : Int) (h : Df w q g n L lf wr gone) (hk : k < n) :
    Calls Try.prog 11 #[.pointer (some ⟨q, 0, none⟩), .agg #[.int .i64 2, .int .i64 (k : Int), .int .i64 T, .int .u8 (y : Int), .slice A m c]] w fun e w' => e = .returned (.tuple #[.int .i64 0, .string (str (piece L k)), .bool true]) ∧ Below w.heap.size w w' := by
  obtain ⟨M, hM⟩ : ∃ M, M = 32 * n := ⟨_, rfl⟩
  have hb : Below w.heap.size w (w.alloc (.cells #[.int .i64 2, .int .i64 (k : Int), .int .i64 T, .int .u8 (y : Int), .slice A m c] 33)) := (Below.refl _ w).alloc (Nat.le_refl _) _
  have h1 : Df (w.alloc (.cells #[.int .i64 2, .int .i64 (k : Int), .int .i64 T, .int .u8 (y : Int), .slice A m c] 33)) q g n L lf wr gone := Bxs.below h hb (Nat.le_refl _)
  have c0 : (w.alloc (.cells #[.int .i64 2, .int .i64 (k : Int), .int .i64 T, .int .u8 (y : Int), .slice A m c] 33)).cell? ⟨q, 0, none⟩ = some (.slice (some ⟨g, 0, none⟩) M M) := by rw [hM]; exact h1.cell 0
  have c1 : (w.alloc (.cells #[.int .i64 2, .int .i64 (k : Int), .int .i64 T, .int .u8 (y : Int), .slice A m c] 33)).cell? ⟨q, 1, none⟩ = some (.int .i64 lf) := h1.cell 1
  have c2 : (w.alloc (.cells #[.int .i64 2, .int .i64 (k : Int), .int .i64 T, .int .u8 (y : Int), .slice A m c] 33)).cell? ⟨q, 2, none⟩ = some (.int .i64 (wr : Int)) := h1.cell 2
  have c3 : (w.alloc (.cells #[.int .i64 2, .int .i64 (k : Int), .int .i64 T, .int .u8 (y : Int), .slice A m c] 33)).cell? ⟨q, 3, none⟩ = some (.bool gone) := h1.cell 3
  have f1 := h1.fr 1
  have f2 := h1.fr 2
  have f3 := h1.fr 3
  have hn := h.few
  have hq : ((M : Int) / 32) = (n : Int) := by omega
  have HB := Lib.hid hb
  have HD := Lib.hid (show ∀ nq, Df ((w.alloc (.cells #[.int .i64 2, .int .i64 (k : Int), .int .i64 T, .int .u8 (y : Int), .slice A m c] 33)).drewN nq) q g n L lf wr gone from fun nq => Bxs.keep h1 rfl rfl)
  have HK := Lib.hid (show ∀ nq, K2 w ((w.alloc (.cells #[.int .i64 2, .int .i64 (k : Int), .int .i64 T, .int .u8 (y : Int), .slice A m c] 33)).drewN nq) q g from fun nq => ⟨hb.os, hb.tape, hb.output, hb.size, fun k hk _ _ => hb.block k hk⟩)
  have hkn : (k : Int) < (n : Int) := Int.ofNat_lt.2 hk
  have t0 : decide ((0 : Int) ≤ (k : Int)) = true := decide_eq_true (Int.natCast_nonneg k)
  have t1 : decide ((k : Int) < (n : Int)) = true := decide_eq_true hkn
  have hL := h.len
  obtain ⟨o, ho⟩ : ∃ o, o = k * 32 := ⟨_, rfl⟩
  have hoM : (o : Int) < (M : Int) := by omega
  have hoM2 : o < M := by omega
  have HoM := Lib.hid hoM2
  have HM := Lib.hid hM
  have HDS := Lib.hid (show ∀ nq, Df ((w.alloc (.cells #[.int .i64 2, .int .i64 (k : Int), .int .i64 T, .int .u8 (y : Int), .slice A m c] 33)).drewN nq) q g n L lf wr gone from fun nq => HD.out nq)
  have HKS := Lib.hid (show ∀ nq, K2 w ((w.alloc (.cells #[.int .i64 2, .int .i64 (k : Int), .int .i64 T, .int .u8 (y : Int), .slice A m c] 33)).drewN nq) q g from fun nq => HK.out nq)
  have hqne : w.heap.size ≠ q := by have := h.plt; omega
  have HOP := Lib.hid (show ∀ nq j v, (#[.int .i64 2, .int .i64 (k : Int), .int .i64 T, .int .u8 (y : Int), .slice A m c] : Array Value)[j]? = some v → ((w.alloc (.cells #[.int .i64 2, .int .i64 (k : Int), .int .i64 T, .int .u8 (y : Int), .slice A m c] 33)).drewN nq).cell? ⟨w.heap.size, j, none⟩ = some v from fun nq j v hv => by
    rw [cell_heap (show ((w.alloc (.cells #[.int .i64 2, .int .i64 (k : Int), .int .i64 T, .int .u8 (y : Int), .slice A m c] 33)).drewN nq).heap[w.heap.size]? = (w.alloc (.cells #[.int .i64 2, .int .i64 (k : Int), .int .i64 T, .int .u8 (y : Int), .slice A m c] 33)).heap[w.heap.size]? from rfl)]
    exact (World.cell?_alloc_new w _ _ j).trans hv)
  have HB2 := Lib.hid (show ∀ nq, Below w.heap.size w ((w.alloc (.cells #[.int .i64 2, .int .i64 (k : Int), .int .i64 T, .int .u8 (y : Int), .slice A m c] 33)).drewN nq) from fun nq => ⟨hb.os, hb.tape, hb.output, hb.size, hb.block⟩)
  have hsl : ∀ v, (Instr.sliceAt 28 (.slice (some ⟨g, 0, none⟩) M M) (some (.int .i64 (o : Int))) (some (.int .i64 ((o + 32 : Nat) : Int))) none).run Try.prog v = .ok (.slice (some ⟨g, o, none⟩) 32 (M - o)) v := fun v => by
    have := slice_lh_at g M o (o + 32) (by omega) (by omega) hoM2 v
    rwa [Nat.add_sub_cancel_left] at this
  obtain ⟨e, he⟩ : ∃ e : Nat, e = o + 32 := ⟨_, rfl⟩
  rw [← he] at hsl
  have hpl := piece_len h.len hk
  have HCV := Lib.hid (show ∀ X, Df X q g n L lf wr gone → ∀ a, (convert 28 9 (.slice (some ⟨g, o, none⟩) 32 (M - o))).run Try.prog (X.drewN a) = .ok (.string (str (piece L k))) (X.drewN a) from fun X hd a => by
    have := conv_sl (P := Try.prog) ((show Sl X X.heap.size (some ⟨g, o, none⟩) (piece L k) from by rw [ho]; exact hd.row.sl hd.bb (k * 32) 32).drewN a) Try.underlying28 Try.underlying5 Try.underlying9 (M - o)
    rwa [hpl] at this)
  have hws : (IntKind.i64.wrap ((n : Int)) = (n : Int) ∧ wrap64 ((n : Int)) = (n : Int)) ∧ (IntKind.i64.wrap ((k : Int) * 32) = (o : Int) ∧ wrap64 ((k : Int) * 32) = (o : Int)) ∧ (IntKind.i64.wrap ((o : Int) + 32) = (e : Int) ∧ wrap64 ((o : Int) + 32) = (e : Int)) := ⟨i64w _ _ (by omega) (by omega) (by omega), i64w _ _ (by omega) (by omega) (by omega), i64w _ _ (by omega) (by omega) (by omega)⟩
  obtain ⟨⟨hwa0, hwb0⟩, ⟨hwa1, hwb1⟩, ⟨hwa2, hwb2⟩⟩ := hws
  clear h h1 hb hM hn hk hL ho hoM2 hqne hpl he
  go_enter Try.func11, Try.ntmps11
  go_wp2
  go_quiet (fail)
  go_wp2
  obtain ⟨X, hX⟩ : ∃ X, X = (w.alloc (.cells #[.int .i64 2, .int .i64 (k : Int), .int .i64 T, .int .u8 (y : Int), .slice A m c] 33)).drewN nq := ⟨_, rfl⟩
  have hd : Df X q g n L lf wr gone := by rw [hX]; exact HDS.out nq
  have hk : K2 w X q g := by rw [hX]; exact HKS.out nq
  have x0 : X.cell? ⟨q, 0, none⟩ = some (.slice (some ⟨g, 0, none⟩) M M) := by rw [HM.out]; exact hd.cell 0
  have x1 : X.cell? ⟨w.heap.size, 1, none⟩ = some (.int .i64 (k : Int)) := by rw [hX]; exact HOP.out nq 1 _ rfl
  have HI := Lib.hid (show Below w.heap.size w X by rw [hX]; exact HB2.out nq)
  have hcv : ∀ a, (convert 28 9 (.slice (some ⟨g, o, none⟩) 32 (M - o))).run Try.prog (X.drewN a) = .ok (.string (str (piece L k))) (X.drewN a) := HCV.out X hd
  clear hd hk
  rw [← hX]
  clear hX
  go_quiet (fail)
  go_wp2
  go_ret3
  exact ⟨rfl, HI.out.os, HI.out.tape, HI.out.output, HI.out.size, HI.out.block⟩
set_option maxRecDepth 100000 in
theorem fdo_tno (q g n : Nat) (L : List Nat) (lf : Int) (wr : Nat) (gone : Bool) (N T : Int) (h : Df w q g n L lf wr gone) (hN0 : hs n N = false) :
    Calls Try.prog 11 #[.pointer (some ⟨q, 0, none⟩), .agg #[.int .i64 3, .int .i64 N, .int .i64 T, .int .u8 (y : Int), .slice A m c]] w fun e w' => e = .returned (.tuple #[.int .i64 0, .string ⟨#[]⟩, .bool false]) ∧ Below w.heap.size w w' := by
  obtain ⟨M, hM⟩ : ∃ M, M = 32 * n := ⟨_, rfl⟩
  have hb : Below w.heap.size w (w.alloc (.cells #[.int .i64 3, .int .i64 N, .int .i64 T, .int .u8 (y : Int), .slice A m c] 33)) := (Below.refl _ w).alloc (Nat.le_refl _) _
  have h1 : Df (w.alloc (.cells #[.int .i64 3, .int .i64 N, .int .i64 T, .int .u8 (y : Int), .slice A m c] 33)) q g n L lf wr gone := Bxs.below h hb (Nat.le_refl _)
  have c0 : (w.alloc (.cells #[.int .i64 3, .int .i64 N, .int .i64 T, .int .u8 (y : Int), .slice A m c] 33)).cell? ⟨q, 0, none⟩ = some (.slice (some ⟨g, 0, none⟩) M M) := by rw [hM]; exact h1.cell 0
  have c1 : (w.alloc (.cells #[.int .i64 3, .int .i64 N, .int .i64 T, .int .u8 (y : Int), .slice A m c] 33)).cell? ⟨q, 1, none⟩ = some (.int .i64 lf) := h1.cell 1
  have c2 : (w.alloc (.cells #[.int .i64 3, .int .i64 N, .int .i64 T, .int .u8 (y : Int), .slice A m c] 33)).cell? ⟨q, 2, none⟩ = some (.int .i64 (wr : Int)) := h1.cell 2
  have c3 : (w.alloc (.cells #[.int .i64 3, .int .i64 N, .int .i64 T, .int .u8 (y : Int), .slice A m c] 33)).cell? ⟨q, 3, none⟩ = some (.bool gone) := h1.cell 3
  have f1 := h1.fr 1
  have f2 := h1.fr 2
  have f3 := h1.fr 3
  have hn := h.few
  have hq : ((M : Int) / 32) = (n : Int) := by omega
  have HB := Lib.hid hb
  have HD := Lib.hid (show ∀ nq, Df ((w.alloc (.cells #[.int .i64 3, .int .i64 N, .int .i64 T, .int .u8 (y : Int), .slice A m c] 33)).drewN nq) q g n L lf wr gone from fun nq => Bxs.keep h1 rfl rfl)
  have HK := Lib.hid (show ∀ nq, K2 w ((w.alloc (.cells #[.int .i64 3, .int .i64 N, .int .i64 T, .int .u8 (y : Int), .slice A m c] 33)).drewN nq) q g from fun nq => ⟨hb.os, hb.tape, hb.output, hb.size, fun k hk _ _ => hb.block k hk⟩)
  have hN := hs_no hN0
  have hws : (IntKind.i64.wrap ((n : Int)) = (n : Int) ∧ wrap64 ((n : Int)) = (n : Int)) := i64w _ _ (by omega) (by omega) (by omega)
  obtain ⟨hwa0, hwb0⟩ := hws
  clear h h1 hb hM hn hN0
  by_cases h0 : 0 ≤ N
  · have t0 : decide (0 ≤ N) = true := by simpa using h0
    have t1 : decide (N < (n : Int)) = false := decide_eq_false (fun h => hN ⟨h0, h⟩)
    have t2 : ¬ N < (n : Int) := fun h => hN ⟨h0, h⟩
    clear hN
    go_enter Try.func11, Try.ntmps11
    go_wp2
    go_quiet (fail)
    go_wp2
    go_ret3
    exact ⟨rfl, HB.out.os, HB.out.tape, HB.out.output, HB.out.size, HB.out.block⟩
  · have t0 : decide (0 ≤ N) = false := by simpa using h0
    clear hN
    go_enter Try.func11, Try.ntmps11
    go_wp2
    go_quiet (fail)
    go_wp2
    go_ret3
    exact ⟨rfl, HB.out.os, HB.out.tape, HB.out.output, HB.out.size, HB.out.block⟩
set_option maxRecDepth 100000 in
theorem fdo_tfar (q g n : Nat) (L : List Nat) (lf : Int) (wr : Nat) (gone : Bool) (k : Nat) (T : Int) (h : Df w q g n L lf wr gone) (hk : k < n) (hT0 : hs 32 T = false) :
    Calls Try.prog 11 #[.pointer (some ⟨q, 0, none⟩), .agg #[.int .i64 3, .int .i64 (k : Int), .int .i64 T, .int .u8 (y : Int), .slice A m c]] w fun e w' => e = .returned (.tuple #[.int .i64 0, .string ⟨#[]⟩, .bool false]) ∧ Below w.heap.size w w' := by
  obtain ⟨M, hM⟩ : ∃ M, M = 32 * n := ⟨_, rfl⟩
  have hb : Below w.heap.size w (w.alloc (.cells #[.int .i64 3, .int .i64 (k : Int), .int .i64 T, .int .u8 (y : Int), .slice A m c] 33)) := (Below.refl _ w).alloc (Nat.le_refl _) _
  have h1 : Df (w.alloc (.cells #[.int .i64 3, .int .i64 (k : Int), .int .i64 T, .int .u8 (y : Int), .slice A m c] 33)) q g n L lf wr gone := Bxs.below h hb (Nat.le_refl _)
  have c0 : (w.alloc (.cells #[.int .i64 3, .int .i64 (k : Int), .int .i64 T, .int .u8 (y : Int), .slice A m c] 33)).cell? ⟨q, 0, none⟩ = some (.slice (some ⟨g, 0, none⟩) M M) := by rw [hM]; exact h1.cell 0
  have c1 : (w.alloc (.cells #[.int .i64 3, .int .i64 (k : Int), .int .i64 T, .int .u8 (y : Int), .slice A m c] 33)).cell? ⟨q, 1, none⟩ = some (.int .i64 lf) := h1.cell 1
  have c2 : (w.alloc (.cells #[.int .i64 3, .int .i64 (k : Int), .int .i64 T, .int .u8 (y : Int), .slice A m c] 33)).cell? ⟨q, 2, none⟩ = some (.int .i64 (wr : Int)) := h1.cell 2
  have c3 : (w.alloc (.cells #[.int .i64 3, .int .i64 (k : Int), .int .i64 T, .int .u8 (y : Int), .slice A m c] 33)).cell? ⟨q, 3, none⟩ = some (.bool gone) := h1.cell 3
  have f1 := h1.fr 1
  have f2 := h1.fr 2
  have f3 := h1.fr 3
  have hn := h.few
  have hq : ((M : Int) / 32) = (n : Int) := by omega
  have HB := Lib.hid hb
  have HD := Lib.hid (show ∀ nq, Df ((w.alloc (.cells #[.int .i64 3, .int .i64 (k : Int), .int .i64 T, .int .u8 (y : Int), .slice A m c] 33)).drewN nq) q g n L lf wr gone from fun nq => Bxs.keep h1 rfl rfl)
  have HK := Lib.hid (show ∀ nq, K2 w ((w.alloc (.cells #[.int .i64 3, .int .i64 (k : Int), .int .i64 T, .int .u8 (y : Int), .slice A m c] 33)).drewN nq) q g from fun nq => ⟨hb.os, hb.tape, hb.output, hb.size, fun k hk _ _ => hb.block k hk⟩)
  have hkn : (k : Int) < (n : Int) := Int.ofNat_lt.2 hk
  have t0 : decide ((0 : Int) ≤ (k : Int)) = true := decide_eq_true (Int.natCast_nonneg k)
  have t1 : decide ((k : Int) < (n : Int)) = true := decide_eq_true hkn
  have hT := hs_no hT0
  have hws : (IntKind.i64.wrap ((n : Int)) = (n : Int) ∧ wrap64 ((n : Int)) = (n : Int)) := i64w _ _ (by omega) (by omega) (by omega)
  obtain ⟨hwa0, hwb0⟩ := hws
  clear h h1 hb hM hn hk hT0
  by_cases h0 : 0 ≤ T
  · have t3 : decide (0 ≤ T) = true := by simpa using h0
    have t4 : decide (T < 32) = false := decide_eq_false (fun h => hT ⟨h0, h⟩)
    have t5 : ¬ T < 32 := fun h => hT ⟨h0, h⟩
    clear hT
    go_enter Try.func11, Try.ntmps11
    go_wp2
    go_quiet (fail)
    go_wp2
    go_ret3
    exact ⟨rfl, HB.out.os, HB.out.tape, HB.out.output, HB.out.size, HB.out.block⟩
  · have t3 : decide (0 ≤ T) = false := by simpa using h0
    clear hT
    go_enter Try.func11, Try.ntmps11
    go_wp2
    go_quiet (fail)
    go_wp2
    go_ret3
    exact ⟨rfl, HB.out.os, HB.out.tape, HB.out.output, HB.out.size, HB.out.block⟩
set_option maxRecDepth 100000 in
theorem fdo_turn (q g n : Nat) (L : List Nat) (lf : Int) (wr : Nat) (gone : Bool) (k a : Nat) (h : Df w q g n L lf wr gone) (hk : k < n) (ha : a < 32) (hy : y < 256) :
    Calls Try.prog 11 #[.pointer (some ⟨q, 0, none⟩), .agg #[.int .i64 3, .int .i64 (k : Int), .int .i64 (a : Int), .int .u8 (y : Int), .slice A m c]] w fun e w' => e = .returned (.tuple #[.int .i64 0, .string ⟨#[]⟩, .bool true]) ∧ Df w' q g n (L.set (k * 32 + a) (co L (k * 32 + a) ^^^ y)) lf wr gone ∧ K2 w w' q g := by
  obtain ⟨M, hM⟩ : ∃ M, M = 32 * n := ⟨_, rfl⟩
  have hb : Below w.heap.size w (w.alloc (.cells #[.int .i64 3, .int .i64 (k : Int), .int .i64 (a : Int), .int .u8 (y : Int), .slice A m c] 33)) := (Below.refl _ w).alloc (Nat.le_refl _) _
  have h1 : Df (w.alloc (.cells #[.int .i64 3, .int .i64 (k : Int), .int .i64 (a : Int), .int .u8 (y : Int), .slice A m c] 33)) q g n L lf wr gone := Bxs.below h hb (Nat.le_refl _)
  have c0 : (w.alloc (.cells #[.int .i64 3, .int .i64 (k : Int), .int .i64 (a : Int), .int .u8 (y : Int), .slice A m c] 33)).cell? ⟨q, 0, none⟩ = some (.slice (some ⟨g, 0, none⟩) M M) := by rw [hM]; exact h1.cell 0
  have c1 : (w.alloc (.cells #[.int .i64 3, .int .i64 (k : Int), .int .i64 (a : Int), .int .u8 (y : Int), .slice A m c] 33)).cell? ⟨q, 1, none⟩ = some (.int .i64 lf) := h1.cell 1
  have c2 : (w.alloc (.cells #[.int .i64 3, .int .i64 (k : Int), .int .i64 (a : Int), .int .u8 (y : Int), .slice A m c] 33)).cell? ⟨q, 2, none⟩ = some (.int .i64 (wr : Int)) := h1.cell 2
  have c3 : (w.alloc (.cells #[.int .i64 3, .int .i64 (k : Int), .int .i64 (a : Int), .int .u8 (y : Int), .slice A m c] 33)).cell? ⟨q, 3, none⟩ = some (.bool gone) := h1.cell 3
  have f1 := h1.fr 1
  have f2 := h1.fr 2
  have f3 := h1.fr 3
  have hn := h.few
  have hq : ((M : Int) / 32) = (n : Int) := by omega
  have HB := Lib.hid hb
  have HD := Lib.hid (show ∀ nq, Df ((w.alloc (.cells #[.int .i64 3, .int .i64 (k : Int), .int .i64 (a : Int), .int .u8 (y : Int), .slice A m c] 33)).drewN nq) q g n L lf wr gone from fun nq => Bxs.keep h1 rfl rfl)
  have HK := Lib.hid (show ∀ nq, K2 w ((w.alloc (.cells #[.int .i64 3, .int .i64 (k : Int), .int .i64 (a : Int), .int .u8 (y : Int), .slice A m c] 33)).drewN nq) q g from fun nq => ⟨hb.os, hb.tape, hb.output, hb.size, fun k hk _ _ => hb.block k hk⟩)
  have hkn : (k : Int) < (n : Int) := Int.ofNat_lt.2 hk
  have t0 : decide ((0 : Int) ≤ (k : Int)) = true := decide_eq_true (Int.natCast_nonneg k)
  have t1 : decide ((k : Int) < (n : Int)) = true := decide_eq_true hkn
  have ha0 : decide ((0 : Int) ≤ (a : Int)) = true := decide_eq_true (Int.natCast_nonneg a)
  have ha1 : decide ((a : Int) < 32) = true := decide_eq_true (by omega)
  have ha2 : (a : Int) < 32 := by omega
  have hL := h.len
  obtain ⟨o, ho⟩ : ∃ o, o = k * 32 := ⟨_, rfl⟩
  have hoM : (o : Int) < (M : Int) := by omega
  have hoM2 : o < M := by omega
  have HoM := Lib.hid hoM2
  have HM := Lib.hid hM
  have HDS := Lib.hid (show ∀ nq, Df ((w.alloc (.cells #[.int .i64 3, .int .i64 (k : Int), .int .i64 (a : Int), .int .u8 (y : Int), .slice A m c] 33)).drewN nq) q g n L lf wr gone from fun nq => HD.out nq)
  have HKS := Lib.hid (show ∀ nq, K2 w ((w.alloc (.cells #[.int .i64 3, .int .i64 (k : Int), .int .i64 (a : Int), .int .u8 (y : Int), .slice A m c] 33)).drewN nq) q g from fun nq => HK.out nq)
  have hqne : w.heap.size ≠ q := by have := h.plt; omega
  have HOP := Lib.hid (show ∀ nq j v, (#[.int .i64 3, .int .i64 (k : Int), .int .i64 (a : Int), .int .u8 (y : Int), .slice A m c] : Array Value)[j]? = some v → ((w.alloc (.cells #[.int .i64 3, .int .i64 (k : Int), .int .i64 (a : Int), .int .u8 (y : Int), .slice A m c] 33)).drewN nq).cell? ⟨w.heap.size, j, none⟩ = some v from fun nq j v hv => by
    rw [cell_heap (show ((w.alloc (.cells #[.int .i64 3, .int .i64 (k : Int), .int .i64 (a : Int), .int .u8 (y : Int), .slice A m c] 33)).drewN nq).heap[w.heap.size]? = (w.alloc (.cells #[.int .i64 3, .int .i64 (k : Int), .int .i64 (a : Int), .int .u8 (y : Int), .slice A m c] 33)).heap[w.heap.size]? from rfl)]
    exact (World.cell?_alloc_new w _ _ j).trans hv)
  obtain ⟨e, he⟩ : ∃ e, e = k * 32 + a := ⟨_, rfl⟩
  have heM : (e : Int) < (M : Int) := by omega
  have heL : e < L.length := by omega
  have HE := Lib.hid heL
  have HEE := Lib.hid he
  obtain ⟨x, hx⟩ : ∃ x, x = co L e := ⟨_, rfl⟩
  have hxb : x < 256 := by rw [hx]; exact h.bb.co _
  have hxor : bits .xor .u8 (x : Int) (y : Int) = ((x ^^^ y : Nat) : Int) := u8_xor_nat x y hxb hy
  have HXY := Lib.hid (u8_xor_lt hxb hy)
  have HX := Lib.hid hx
  have hws : (IntKind.i64.wrap ((n : Int)) = (n : Int) ∧ wrap64 ((n : Int)) = (n : Int)) ∧ (IntKind.i64.wrap ((k : Int) * 32) = (o : Int) ∧ wrap64 ((k : Int) * 32) = (o : Int)) ∧ (IntKind.i64.wrap ((o : Int) + (a : Int)) = (e : Int) ∧ wrap64 ((o : Int) + (a : Int)) = (e : Int)) := ⟨i64w _ _ (by omega) (by omega) (by omega), i64w _ _ (by omega) (by omega) (by omega), i64w _ _ (by omega) (by omega) (by omega)⟩
  obtain ⟨⟨hwa0, hwb0⟩, ⟨hwa1, hwb1⟩, ⟨hwa2, hwb2⟩⟩ := hws
  clear h h1 hb hM hn hk hL ho hoM2 hqne he hx hxb ha hy heL
  go_enter Try.func11, Try.ntmps11
  go_wp2
  go_quiet (fail)
  go_wp2
  obtain ⟨X, hX⟩ : ∃ X, X = (w.alloc (.cells #[.int .i64 3, .int .i64 (k : Int), .int .i64 (a : Int), .int .u8 (y : Int), .slice A m c] 33)).drewN nq := ⟨_, rfl⟩
  have hd : Df X q g n L lf wr gone := by rw [hX]; exact HDS.out nq
  have hk : K2 w X q g := by rw [hX]; exact HKS.out nq
  have x0 : X.cell? ⟨q, 0, none⟩ = some (.slice (some ⟨g, 0, none⟩) M M) := by rw [HM.out]; exact hd.cell 0
  have x1 : X.cell? ⟨w.heap.size, 1, none⟩ = some (.int .i64 (k : Int)) := by rw [hX]; exact HOP.out nq 1 _ rfl
  have x2 : X.cell? ⟨w.heap.size, 2, none⟩ = some (.int .i64 (a : Int)) := by rw [hX]; exact HOP.out nq 2 _ rfl
  have x3 : X.cell? ⟨w.heap.size, 3, none⟩ = some (.int .u8 (y : Int)) := by rw [hX]; exact HOP.out nq 3 _ rfl
  have cg := hd.row.cell' (k := e) HE.out
  have fg := hd.row.frozen e
  rw [← HX.out] at cg
  have hk2 := K2.setg X.drew q g e (.int .u8 ((x ^^^ y : Nat) : Int))
  have HD2 := Lib.hid (show Df (X.drew.setCell ⟨g, e, none⟩ (.int .u8 ((x ^^^ y : Nat) : Int))) q g n (L.set e (x ^^^ y)) lf wr gone from Bxs.turn (w := X.drew) (Bxs.keep hd rfl rfl) _ _ HXY.out)
  have HK2 := Lib.hid (show K2 w (X.drew.setCell ⟨g, e, none⟩ (.int .u8 ((x ^^^ y : Nat) : Int))) q g from hk.sm ⟨hk2.os, hk2.tape, hk2.output, hk2.size, hk2.block⟩)
  clear hd hk hk2
  rw [← hX]
  clear hX
  go_still_tail 16, (by kernel_rfl)
  change wpList _ _ _ _ _ X.drew
  go_wp2
  go_ret3
  exact ⟨rfl, by rw [← HEE.out, ← HX.out]; exact HD2.out, HK2.out⟩
set_option maxRecDepth 100000 in
theorem fdo_fuse (q g n : Nat) (L : List Nat) (lf : Int) (wr : Nat) (gone : Bool) (N T : Int) (h : Df w q g n L lf wr gone) :
    Calls Try.prog 11 #[.pointer (some ⟨q, 0, none⟩), .agg #[.int .i64 4, .int .i64 N, .int .i64 T, .int .u8 (y : Int), .slice A m c]] w fun e w' => e = .returned (.tuple #[.int .i64 0, .string ⟨#[]⟩, .bool false]) ∧ Df w' q g n L (N.toNat : Int) wr gone ∧ K2 w w' q g := by
  obtain ⟨M, hM⟩ : ∃ M, M = 32 * n := ⟨_, rfl⟩
  have hb : Below w.heap.size w (w.alloc (.cells #[.int .i64 4, .int .i64 N, .int .i64 T, .int .u8 (y : Int), .slice A m c] 33)) := (Below.refl _ w).alloc (Nat.le_refl _) _
  have h1 : Df (w.alloc (.cells #[.int .i64 4, .int .i64 N, .int .i64 T, .int .u8 (y : Int), .slice A m c] 33)) q g n L lf wr gone := Bxs.below h hb (Nat.le_refl _)
  have c0 : (w.alloc (.cells #[.int .i64 4, .int .i64 N, .int .i64 T, .int .u8 (y : Int), .slice A m c] 33)).cell? ⟨q, 0, none⟩ = some (.slice (some ⟨g, 0, none⟩) M M) := by rw [hM]; exact h1.cell 0
  have c1 : (w.alloc (.cells #[.int .i64 4, .int .i64 N, .int .i64 T, .int .u8 (y : Int), .slice A m c] 33)).cell? ⟨q, 1, none⟩ = some (.int .i64 lf) := h1.cell 1
  have c2 : (w.alloc (.cells #[.int .i64 4, .int .i64 N, .int .i64 T, .int .u8 (y : Int), .slice A m c] 33)).cell? ⟨q, 2, none⟩ = some (.int .i64 (wr : Int)) := h1.cell 2
  have c3 : (w.alloc (.cells #[.int .i64 4, .int .i64 N, .int .i64 T, .int .u8 (y : Int), .slice A m c] 33)).cell? ⟨q, 3, none⟩ = some (.bool gone) := h1.cell 3
  have f1 := h1.fr 1
  have f2 := h1.fr 2
  have f3 := h1.fr 3
  have hn := h.few
  have hq : ((M : Int) / 32) = (n : Int) := by omega
  have HB := Lib.hid hb
  have HD := Lib.hid (show ∀ nq, Df ((w.alloc (.cells #[.int .i64 4, .int .i64 N, .int .i64 T, .int .u8 (y : Int), .slice A m c] 33)).drewN nq) q g n L lf wr gone from fun nq => Bxs.keep h1 rfl rfl)
  have HK := Lib.hid (show ∀ nq, K2 w ((w.alloc (.cells #[.int .i64 4, .int .i64 N, .int .i64 T, .int .u8 (y : Int), .slice A m c] 33)).drewN nq) q g from fun nq => ⟨hb.os, hb.tape, hb.output, hb.size, fun k hk _ _ => hb.block k hk⟩)
  have hqne : w.heap.size ≠ q := by have := h.plt; omega
  have hqne2 : q ≠ w.heap.size := by have := h.plt; omega
  have hws : (IntKind.i64.wrap ((n : Int)) = (n : Int) ∧ wrap64 ((n : Int)) = (n : Int)) := i64w _ _ (by omega) (by omega) (by omega)
  obtain ⟨hwa0, hwb0⟩ := hws
  clear h h1 hb hM hn
  by_cases h0 : 0 ≤ N
  · obtain ⟨z, rfl⟩ : ∃ z : Nat, N = (z : Int) := ⟨N.toNat, by omega⟩
    have t0 : decide (0 ≤ (z : Int)) = true := decide_eq_true h0
    have t1 : ¬ (z : Int) < 0 := by omega
    rw [Int.toNat_natCast]
    go_enter Try.func11, Try.ntmps11
    go_wp2
    go_quiet (fail)
    go_wp2
    go_ret3
    exact ⟨rfl, Bxs.set (HD.out nq) 1 (.int .i64 (z : Int)), (HK.out nq).sm (K2.set _ q g 1 _)⟩
  · have t0 : decide (0 ≤ N) = false := by simpa using h0
    have hz : N.toNat = 0 := by omega
    have t1 : N < 0 := by omega
    rw [hz]
    clear hz
    go_enter Try.func11, Try.ntmps11
    go_wp2
    go_quiet (fail)
    go_wp2
    go_ret3
    exact ⟨rfl, Bxs.set (Bxs.set (HD.out nq) 1 (.int .i64 N)) 1 (.int .i64 0), ((HK.out nq).sm (K2.set _ q g 1 _)).sm (K2.set _ q g 1 _)⟩
set_option maxRecDepth 100000 in
theorem fdo_on (q g n : Nat) (L : List Nat) (lf : Int) (wr : Nat) (gone : Bool) (N T : Int) (h : Df w q g n L lf wr gone) :
    Calls Try.prog 11 #[.pointer (some ⟨q, 0, none⟩), .agg #[.int .i64 5, .int .i64 N, .int .i64 T, .int .u8 (y : Int), .slice A m c]] w fun e w' => e = .returned (.tuple #[.int .i64 0, .string ⟨#[]⟩, .bool false]) ∧ Df w' q g n L (-1) wr false ∧ K2 w w' q g := by
  obtain ⟨M, hM⟩ : ∃ M, M = 32 * n := ⟨_, rfl⟩
  have hb : Below w.heap.size w (w.alloc (.cells #[.int .i64 5, .int .i64 N, .int .i64 T, .int .u8 (y : Int), .slice A m c] 33)) := (Below.refl _ w).alloc (Nat.le_refl _) _
  have h1 : Df (w.alloc (.cells #[.int .i64 5, .int .i64 N, .int .i64 T, .int .u8 (y : Int), .slice A m c] 33)) q g n L lf wr gone := Bxs.below h hb (Nat.le_refl _)
  have c0 : (w.alloc (.cells #[.int .i64 5, .int .i64 N, .int .i64 T, .int .u8 (y : Int), .slice A m c] 33)).cell? ⟨q, 0, none⟩ = some (.slice (some ⟨g, 0, none⟩) M M) := by rw [hM]; exact h1.cell 0
  have c1 : (w.alloc (.cells #[.int .i64 5, .int .i64 N, .int .i64 T, .int .u8 (y : Int), .slice A m c] 33)).cell? ⟨q, 1, none⟩ = some (.int .i64 lf) := h1.cell 1
  have c2 : (w.alloc (.cells #[.int .i64 5, .int .i64 N, .int .i64 T, .int .u8 (y : Int), .slice A m c] 33)).cell? ⟨q, 2, none⟩ = some (.int .i64 (wr : Int)) := h1.cell 2
  have c3 : (w.alloc (.cells #[.int .i64 5, .int .i64 N, .int .i64 T, .int .u8 (y : Int), .slice A m c] 33)).cell? ⟨q, 3, none⟩ = some (.bool gone) := h1.cell 3
  have f1 := h1.fr 1
  have f2 := h1.fr 2
  have f3 := h1.fr 3
  have hn := h.few
  have hq : ((M : Int) / 32) = (n : Int) := by omega
  have HB := Lib.hid hb
  have HD := Lib.hid (show ∀ nq, Df ((w.alloc (.cells #[.int .i64 5, .int .i64 N, .int .i64 T, .int .u8 (y : Int), .slice A m c] 33)).drewN nq) q g n L lf wr gone from fun nq => Bxs.keep h1 rfl rfl)
  have HK := Lib.hid (show ∀ nq, K2 w ((w.alloc (.cells #[.int .i64 5, .int .i64 N, .int .i64 T, .int .u8 (y : Int), .slice A m c] 33)).drewN nq) q g from fun nq => ⟨hb.os, hb.tape, hb.output, hb.size, fun k hk _ _ => hb.block k hk⟩)
  have hws : (IntKind.i64.wrap ((n : Int)) = (n : Int) ∧ wrap64 ((n : Int)) = (n : Int)) := i64w _ _ (by omega) (by omega) (by omega)
  obtain ⟨hwa0, hwb0⟩ := hws
  clear h h1 hb hM hn
  by_cases h0 : 0 ≤ N
  · have t0 : decide (0 ≤ N) = true := by simpa using h0
    go_enter Try.func11, Try.ntmps11
    go_wp2
    go_quiet (fail)
    go_wp2
    go_ret3
    exact ⟨rfl, Bxs.set (Bxs.set (HD.out nq) 1 (.int .i64 (-1))) 3 (.bool false), ((HK.out nq).sm (K2.set _ q g 1 _)).sm (K2.set _ q g 3 _)⟩
  · have t0 : decide (0 ≤ N) = false := by simpa using h0
    go_enter Try.func11, Try.ntmps11
    go_wp2
    go_quiet (fail)
    go_wp2
    go_ret3
    exact ⟨rfl, Bxs.set (Bxs.set (HD.out nq) 1 (.int .i64 (-1))) 3 (.bool false), ((HK.out nq).sm (K2.set _ q g 1 _)).sm (K2.set _ q g 3 _)⟩
end
end Go.Proofs.Ytcbgpichkjcgnaa
