import Derived.Orders
import Derived.StillTail
import Derived.Below
import Derived.BigCall
import Derived.Test.YtaknffdokkfmgaaJ4
section
/- deal: Good, Point, Need, Secrets, Points. -/
namespace Go.Proofs.Ytaknffdokkfmgaa
open Go.RowKit Go.Shelf Gw Pol

theorem wi_yes (x lo hi : Int) (h1 : lo ≤ x) (h2 : x ≤ hi) (w : World) :
    Calls Try.prog 38 #[.int .i64 x, .int .i64 lo, .int .i64 hi] w fun e w' => e = .returned (.bool true) ∧ w' = w := by
  have d1 : decide (lo ≤ x) = true := decide_eq_true h1
  have d2 : decide (x ≤ hi) = true := decide_eq_true h2
  go_enter Try.func38, Try.ntmps38
  go_wp2
  go_ret
  exact ⟨rfl, rfl⟩
theorem wi_no (x lo hi : Int) (h : x < lo ∨ hi < x) (w : World) :
    Calls Try.prog 38 #[.int .i64 x, .int .i64 lo, .int .i64 hi] w fun e w' => e = .returned (.bool false) ∧ w' = w := by
  by_cases h1 : lo ≤ x
  · have d1 : decide (lo ≤ x) = true := decide_eq_true h1
    have d2 : decide (x ≤ hi) = false := decide_eq_false (by omega)
    clear h
    go_enter Try.func38, Try.ntmps38
    go_wp2
    go_ret
    exact ⟨rfl, rfl⟩
  · have d1 : decide (lo ≤ x) = false := decide_eq_false h1
    clear h
    go_enter Try.func38, Try.ntmps38
    go_wp2
    go_ret
    exact ⟨rfl, rfl⟩

set_option maxRecDepth 100000 in
set_option maxHeartbeats 1000000 in
theorem dgood_any (N T K E R : Int) (w : World) (_hw : (Lit.int .i64 N).wf = true ∧ (Lit.int .i64 T).wf = true ∧ (Lit.int .i64 K).wf = true ∧ (Lit.int .i64 E).wf = true ∧ (Lit.int .i64 R).wf = true) :
    Calls Try.prog 12 #[pv N T K E R] w fun e w' => e = .returned (.bool (goodB N T K E R)) ∧ Below w.heap.size w w' := by
  have hb : Below w.heap.size w (w.alloc (.cells #[.int .i64 N, .int .i64 T, .int .i64 K, .int .i64 E, .int .i64 R] 23)) := (Below.refl _ w).alloc (Nat.le_refl _) _
  by_cases hT : 1 ≤ T ∧ T ≤ 255
  rotate_left
  · have HF := Lib.hid (show goodB N T K E R = false from decide_eq_false (by omega))
    have HC := Lib.hid (wi_no T 1 255 (by omega))
    clear hT
    go_enter Try.func12, Try.ntmps12
    go_wp2_with fail
    refine (HC.out _).mono ?_
    rintro e w' ⟨rfl, rfl⟩
    go_wp2
    go_ret
    exact ⟨by rw [HF.out]; rfl, hb⟩
  have HCT := Lib.hid (wi_yes T 1 255 hT.1 hT.2)
  by_cases hK : 1 ≤ K ∧ K ≤ 255
  rotate_left
  · have HF := Lib.hid (show goodB N T K E R = false from decide_eq_false (by omega))
    have HC := Lib.hid (wi_no K 1 255 (by omega))
    clear hT hK
    go_enter Try.func12, Try.ntmps12
    go_wp2_with fail
    refine (HCT.out _).mono ?_
    rintro e w' ⟨rfl, rfl⟩
    go_wp2_with fail
    refine (HC.out _).mono ?_
    rintro e w' ⟨rfl, rfl⟩
    go_wp2
    go_ret
    exact ⟨by rw [HF.out]; rfl, hb⟩
  have HCK := Lib.hid (wi_yes K 1 255 hK.1 hK.2)
  by_cases hE : 0 ≤ E ∧ E ≤ 255
  rotate_left
  · have HF := Lib.hid (show goodB N T K E R = false from decide_eq_false (by omega))
    have HC := Lib.hid (wi_no E 0 255 (by omega))
    clear hT hK hE
    go_enter Try.func12, Try.ntmps12
    go_wp2_with fail
    refine (HCT.out _).mono ?_
    rintro e w' ⟨rfl, rfl⟩
    go_wp2_with fail
    refine (HCK.out _).mono ?_
    rintro e w' ⟨rfl, rfl⟩
    go_wp2_with fail
    refine (HC.out _).mono ?_
    rintro e w' ⟨rfl, rfl⟩
    go_wp2
    go_ret
    exact ⟨by rw [HF.out]; rfl, hb⟩
  have HCE := Lib.hid (wi_yes E 0 255 hE.1 hE.2)
  by_cases hR : 1 ≤ R ∧ R ≤ 512
  rotate_left
  · have HF := Lib.hid (show goodB N T K E R = false from decide_eq_false (by omega))
    have HC := Lib.hid (wi_no R 1 512 (by omega))
    clear hT hK hE hR
    go_enter Try.func12, Try.ntmps12
    go_wp2_with fail
    refine (HCT.out _).mono ?_
    rintro e w' ⟨rfl, rfl⟩
    go_wp2_with fail
    refine (HCK.out _).mono ?_
    rintro e w' ⟨rfl, rfl⟩
    go_wp2_with fail
    refine (HCE.out _).mono ?_
    rintro e w' ⟨rfl, rfl⟩
    go_wp2_with fail
    refine (HC.out _).mono ?_
    rintro e w' ⟨rfl, rfl⟩
    go_wp2
    go_ret
    exact ⟨by rw [HF.out]; rfl, hb⟩
  have HCR := Lib.hid (wi_yes R 1 512 hR.1 hR.2)
  obtain ⟨lo, hlo⟩ : ∃ lo, lo = T + K + 2 * E := ⟨_, rfl⟩
  obtain ⟨hi, hhi⟩ : ∃ hi, hi = 255 - K := ⟨_, rfl⟩
  obtain ⟨s, hs⟩ : ∃ s, s = T + K := ⟨_, rfl⟩
  obtain ⟨d, hd⟩ : ∃ d, d = 2 * E := ⟨_, rfl⟩
  have e1 : IntKind.i64.wrap (T + K) = s := by rw [IntKind.wrap_i64]; omega
  have e2 : IntKind.i64.wrap (2 * E) = d := by rw [IntKind.wrap_i64]; omega
  have e3 : IntKind.i64.wrap (s + d) = lo := by rw [IntKind.wrap_i64]; omega
  have e4 : IntKind.i64.wrap (255 - K) = hi := by rw [IntKind.wrap_i64]; omega
  have HD : Hid (Calls Try.prog 38 #[.int .i64 N, .int .i64 lo, .int .i64 hi] (w.alloc (.cells #[.int .i64 N, .int .i64 T, .int .i64 K, .int .i64 E, .int .i64 R] 23)) fun e w' => e = .returned (.bool (goodB N T K E R)) ∧ w' = (w.alloc (.cells #[.int .i64 N, .int .i64 T, .int .i64 K, .int .i64 E, .int .i64 R] 23))) := Lib.hid (by
    by_cases hN : lo ≤ N ∧ N ≤ hi
    · rw [show goodB N T K E R = true from decide_eq_true (by omega)]
      exact wi_yes N lo hi hN.1 hN.2 _
    · rw [show goodB N T K E R = false from decide_eq_false (by omega)]
      exact wi_no N lo hi (by omega) _)
  clear hlo hhi hs hd hT hK hE hR
  go_enter Try.func12, Try.ntmps12
  go_wp2_with fail
  refine (HCT.out _).mono ?_
  rintro e w' ⟨rfl, rfl⟩
  go_wp2_with fail
  refine (HCK.out _).mono ?_
  rintro e w' ⟨rfl, rfl⟩
  go_wp2_with fail
  refine (HCE.out _).mono ?_
  rintro e w' ⟨rfl, rfl⟩
  go_wp2_with fail
  refine (HCR.out _).mono ?_
  rintro e w' ⟨rfl, rfl⟩
  go_wp2_with fail
  refine HD.out.mono ?_
  rintro e w' ⟨rfl, rfl⟩
  go_wp2
  go_ret
  exact ⟨rfl, hb⟩

theorem dpoint_any (x : Int) (y : Nat) (hy : y = ((x + 1) % 256).toNat) (w : World) :
    Calls Try.prog 37 #[.int .i64 x] w fun e w' => e = .returned (.int .u8 (y : Int)) ∧ w' = w := by
  obtain ⟨z, hz⟩ : ∃ z : Nat, z = (x % 256).toNat := ⟨_, rfl⟩
  have e1 : IntKind.u8.wrap x = (z : Int) := by rw [IntKind.wrap_u8]; omega
  have e2 : IntKind.u8.wrap ((z : Int) + 1) = (y : Int) := by rw [IntKind.wrap_u8]; omega
  have hzb : z < 256 := by omega
  clear hz hy
  go_enter Try.func37, Try.ntmps37
  go_wp2
  go_ret
  exact ⟨rfl, rfl⟩
theorem dpoint_nat (x y : Nat) (h1 : x ≤ 254) (hy : y = x + 1) (w : World) :
    Calls Try.prog 37 #[.int .i64 (x : Int)] w fun e w' => e = .returned (.int .u8 (y : Int)) ∧ w' = w := dpoint_any x y (by omega) w
theorem dpoint_zero (w : World) : Calls Try.prog 37 #[.int .i64 0] w fun e w' => e = .returned (.int .u8 1) ∧ Below w.heap.size w w' :=
  (dpoint_any 0 1 (by omega) w).mono fun e w' h => ⟨h.1, by rw [h.2]; exact Below.refl _ _⟩

theorem dneed1_any (N : Int) (t k : Nat) (E R kind : Int) (ht : 1 ≤ t) (htk : t + k ≤ 255) (w : World) :
    Calls Try.prog 39 #[pv N t k E R, .int .i64 kind] w fun e w' => e = .returned (.int .i64 (eachN t k kind : Int)) ∧ w' = w.alloc (.cells #[.int .i64 N, .int .i64 (t : Int), .int .i64 (k : Int), .int .i64 E, .int .i64 R] 23) := by
  by_cases h1 : kind = 1
  · have HE := Lib.hid (show eachN t k kind = t by unfold eachN; rw [if_pos (.inl h1)])
    subst h1
    go_enter Try.func39, Try.ntmps39
    go_wp2
    go_ret
    exact ⟨by rw [HE.out]; rfl, rfl⟩
  by_cases h2 : kind = 2
  · have HE := Lib.hid (show eachN t k kind = t by unfold eachN; rw [if_pos (.inr h2)])
    subst h2
    go_enter Try.func39, Try.ntmps39
    go_wp2
    go_ret
    exact ⟨by rw [HE.out]; rfl, rfl⟩
  by_cases h3 : kind = 3
  · have HE := Lib.hid (show eachN t k kind = t + k - 1 by unfold eachN; rw [if_neg (by omega), if_pos h3])
    subst h3
    go_enter Try.func39, Try.ntmps39
    go_wp2
    go_ret
    refine ⟨?_, rfl⟩
    rw [HE.out]
    go_num
  by_cases h4 : kind = 4
  · have HE := Lib.hid (show eachN t k kind = t + k by unfold eachN; rw [if_neg (by omega), if_neg h3, if_pos h4])
    subst h4
    go_enter Try.func39, Try.ntmps39
    go_wp2
    go_ret
    refine ⟨?_, rfl⟩
    rw [HE.out]
    go_num
  have HE := Lib.hid (show eachN t k kind = 0 by unfold eachN; rw [if_neg (by omega), if_neg h3, if_neg h4])
  have b1 : (kind == 1) = false := beq_eq_false_iff_ne.2 h1
  have b2 : (kind == 2) = false := beq_eq_false_iff_ne.2 h2
  have b3 : (kind == 3) = false := beq_eq_false_iff_ne.2 h3
  have b4 : (kind == 4) = false := beq_eq_false_iff_ne.2 h4
  go_enter Try.func39, Try.ntmps39
  go_wp2
  go_ret
  exact ⟨by rw [HE.out]; rfl, rfl⟩
theorem eachN_le {t k : Nat} (kind : Int) (htk : t + k ≤ 255) : eachN t k kind ≤ 255 := by
  unfold eachN; split <;> (try split) <;> (try split) <;> omega
theorem dneed_in (N : Int) (t k : Nat) (E R kind : Int) (ht : 1 ≤ t) (htk : t + k ≤ 255) (cols m : Nat) (hm : m = eachN t k kind * cols) (hc : cols ≤ 4096) (w : World) :
    Calls Try.prog 18 #[pv N t k E R, .int .i64 kind, .int .i64 (cols : Int)] w fun e w' => e = .returned (.int .i64 (m : Int)) ∧ Below w.heap.size w w' := by
  have hb : Below w.heap.size w (w.alloc (.cells #[.int .i64 N, .int .i64 (t : Int), .int .i64 (k : Int), .int .i64 E, .int .i64 R] 23)) := (Below.refl _ w).alloc (Nat.le_refl _) _
  have HN := Lib.hid (dneed1_any N t k E R kind ht htk (w.alloc (.cells #[.int .i64 N, .int .i64 (t : Int), .int .i64 (k : Int), .int .i64 E, .int .i64 R] 23)))
  have hle := eachN_le kind htk
  obtain ⟨x, hx⟩ : ∃ x, x = eachN t k kind := ⟨_, rfl⟩
  rw [← hx] at HN hle hm
  have hmb : m ≤ 255 * 4096 := by rw [hm]; exact Nat.mul_le_mul hle hc
  have e1 : (cols : Int) * (x : Int) = (m : Int) := by rw [hm, Nat.mul_comm]; simp
  clear hx hm
  go_enter Try.func18, Try.ntmps18
  go_wp2_with fail
  refine HN.out.mono ?_
  rintro e w' ⟨rfl, rfl⟩
  go_wp2
  go_ret
  exact ⟨rfl, hb.alloc (by simp) _⟩

/-- A row whose first q bytes are written. -/
def fp (f : Nat → Nat) (k q : Nat) : List Nat := (List.range k).map fun i => if i < q then f i else 0
theorem fp_len (f : Nat → Nat) (k q : Nat) : (fp f k q).length = k := by simp [fp]
theorem fp_zero (f : Nat → Nat) (k : Nat) : fp f k 0 = List.replicate k 0 := by
  apply List.ext_getElem
  · simp [fp]
  · intro i h1 h2; simp [fp]
theorem fp_all (f : Nat → Nat) (k : Nat) : fp f k k = (List.range k).map f := by
  unfold fp
  refine List.map_congr_left fun i hi => ?_
  rw [if_pos (List.mem_range.1 hi)]
theorem fp_set {f : Nat → Nat} {k q y : Nat} (hy : y = f q) : (fp f k q).set q y = fp f k (q + 1) := by
  subst hy
  apply List.ext_getElem
  · simp [fp]
  · intro j h1 h2
    simp only [fp, List.getElem_set, List.getElem_map, List.getElem_range]
    by_cases hj : q = j
    · subst hj; simp
    · rw [if_neg hj]
      by_cases h3 : j < q
      · rw [if_pos h3, if_pos (by omega)]
      · rw [if_neg h3, if_neg (by omega)]
def FpRel (w : World) (g b : Nat) (f : Nat → Nat) (k : Nat) (v : Value) (i : Value) (wr : World) : Prop :=
  ∃ q : Nat, q ≤ k ∧ i = .int .i64 (q : Int) ∧ Gw.Own wr g 5 (some ⟨g, 0, none⟩) k (fp f k q) ∧ Below w.heap.size w wr ∧ wr.cell? ⟨b, 0, none⟩ = some v
set_option maxRecDepth 100000 in
set_option maxHeartbeats 1000000 in
theorem dsec_in (n k : Nat) (T E R : Int) (h : n + k ≤ 255) (w : World) :
    Calls Try.prog 16 #[pv n T k E R] w fun e w' => ∃ A c, e = .returned (.slice A k c) ∧ Gw.Own w' w.heap.size 5 A c (secL n k) ∧ Below w.heap.size w w' := by
  have hmk := run_make_row' (P := Try.prog) 28 5 (.int .u8 0) 1 Try.underlying28 pbyte_info rfl .i64 .i64 k (by omega) (by omega)
  obtain ⟨w0, hw0⟩ : ∃ w0, w0 = w.alloc (.cells #[.int .i64 (n : Int), .int .i64 T, .int .i64 (k : Int), .int .i64 E, .int .i64 R] 23) := ⟨_, rfl⟩
  have hs0 : w0.heap.size = w.heap.size + 1 := by rw [hw0]; simp
  have hb0 : Below w.heap.size w w0 := by rw [hw0]; exact (Below.refl _ w).alloc (Nat.le_refl _) _
  have hc0 : w0.cell? ⟨w.heap.size, 0, none⟩ = some (.int .i64 (n : Int)) := by rw [hw0]; exact World.cell?_alloc_new w _ _ 0
  have hO := Own.made w0 5 k (by omega)
  rw [← fp_zero (fun i => n + 1 + i) k, hs0] at hO
  have hc1 : (w0.alloc (.cells (madeCells #[.int .u8 0] k) 5)).cell? ⟨w.heap.size, 0, none⟩ = some (.int .i64 (n : Int)) := (World.cell?_alloc_lt w0 _ ⟨w.heap.size, 0, none⟩ (by show w.heap.size < _; omega)).trans hc0
  have hb1 : Below w.heap.size w (w0.alloc (.cells (madeCells #[.int .u8 0] k) 5)) := hb0.alloc (by omega) _
  go_enter Try.func16, Try.ntmps16
  go_wp2
  rw [← hw0]
  clear hmk hc0 hb0 hw0
  go_loopw [10] (FpRel w (w.heap.size + 1) w.heap.size (fun i => n + 1 + i) k (.int .i64 (n : Int))) (fun i _ => k - (intOf i).toNat)
  case atStart => exact ⟨0, Nat.zero_le _, rfl, hO, hb1, hc1⟩
  case round =>
    clear hO hb1 hc1
    obtain ⟨q, hq, rfl, hown, hbr, hcn⟩ := hrel
    by_cases hlt : q < k
    · have hc := hown.cell (k := q) (by rw [fp_len]; exact hlt)
      have hf := hown.frozen q
      obtain ⟨x, hx⟩ : ∃ x, x = n + q := ⟨_, rfl⟩
      have e1 : (n : Int) + (q : Int) = (x : Int) := by omega
      obtain ⟨y, hy⟩ : ∃ y, y = x + 1 := ⟨_, rfl⟩
      have HP := Lib.hid (dpoint_nat x y (by omega) hy wr)
      have HO := Lib.hid (hown.put (k := q) (by rw [fp_len]; exact hlt) (y := y) (by omega))
      rw [fp_set (f := fun i => n + 1 + i) (by show y = n + 1 + q; omega)] at HO
      have HB := Lib.hid (hbr.setCell (p := ⟨w.heap.size + 1, q, none⟩) (by show w.heap.size ≤ w.heap.size + 1; omega) (.int .u8 (y : Int)))
      have HC := Lib.hid (show (wr.setCell ⟨w.heap.size + 1, q, none⟩ (.int .u8 (y : Int))).cell? ⟨w.heap.size, 0, none⟩ = some (.int .i64 (n : Int)) by rw [World.cell?_setCell_other _ _ _ _ (fun h => by injection h with h1; omega)]; exact hcn)
      have hxb : x ≤ 254 := by omega
      clear hown hx hy
      go_wp2_with fail
      refine HP.out.mono ?_
      rintro e _ ⟨rfl, rfl⟩
      go_wp2
      go_roundw
      case rel => exact ⟨q + 1, by omega, by go_num, HO.out, HB.out, HC.out⟩
      case measure => simp [intOf]; omega
    · obtain rfl : q = k := by omega
      rw [fp_all] at hown
      have HO := Lib.hid (hown.base (base' := w.heap.size) (by omega))
      clear hown
      go_wp2
      go_ret
      exact ⟨_, _, rfl, HO.out, hbr⟩

def pts (z : List Int) (i : Nat) : Nat := ((z.getD i 0 + 1) % 256).toNat
theorem pts_all (z : List Int) : (List.range z.length).map (pts z) = xsL z := by
  apply List.ext_getElem
  · simp [xsL]
  · intro i h1 h2
    have : i < z.length := by simpa using h1
    simp [xsL, pts, this]
set_option maxRecDepth 100000 in
set_option maxHeartbeats 1000000 in
theorem dpoints_in (A : Option Addr) (c N : Nat) (z : List Int) (hN : N = z.length) (P0 P1 P2 P3 P4 : Int) (w : World) (hI : InZ w w.heap.size A c z) (hz : ∀ x ∈ z, 0 ≤ x ∧ x ≤ 300) (hNb : N ≤ 17592186043904) :
    Calls Try.prog 14 #[pv P0 P1 P2 P3 P4, .slice A N c] w fun e w' => ∃ A2 c2, e = .returned (.slice A2 N c2) ∧ In w' w'.heap.size A2 c2 (xsL z) ∧ Below w.heap.size w w' := by
  have hmk := run_make_row' (P := Try.prog) 28 5 (.int .u8 0) 1 Try.underlying28 pbyte_info rfl .i64 .i64 N (by omega) (by omega)
  have hcap := hI.cap
  rw [← hN] at hcap
  have HN := Lib.hid hN
  clear hN
  obtain ⟨w0, hw0⟩ : ∃ w0, w0 = w.alloc (.cells #[.int .i64 P0, .int .i64 P1, .int .i64 P2, .int .i64 P3, .int .i64 P4] 23) := ⟨_, rfl⟩
  have hs0 : w0.heap.size = w.heap.size + 1 := by rw [hw0]; simp
  have hb0 : Below w.heap.size w w0 := by rw [hw0]; exact (Below.refl _ w).alloc (Nat.le_refl _) _
  have hc0 : w0.cell? ⟨w.heap.size, 0, none⟩ = some (.int .i64 P0) := by rw [hw0]; exact World.cell?_alloc_new w _ _ 0
  have hO := Own.made w0 5 N (by omega)
  rw [← fp_zero (pts z) N, hs0] at hO
  have hc1 : (w0.alloc (.cells (madeCells #[.int .u8 0] N) 5)).cell? ⟨w.heap.size, 0, none⟩ = some (.int .i64 P0) := (World.cell?_alloc_lt w0 _ ⟨w.heap.size, 0, none⟩ (by show w.heap.size < _; omega)).trans hc0
  have hb1 : Below w.heap.size w (w0.alloc (.cells (madeCells #[.int .u8 0] N) 5)) := hb0.alloc (by omega) _
  go_enter Try.func14, Try.ntmps14
  go_wp2
  rw [← hw0]
  clear hmk hc0 hb0 hw0
  go_loopw [13] (FpRel w (w.heap.size + 1) w.heap.size (pts z) N (.int .i64 P0)) (fun i _ => N - (intOf i).toNat)
  case atStart => exact ⟨0, Nat.zero_le _, rfl, hO, hb1, hc1⟩
  case round =>
    clear hO hb1 hc1
    obtain ⟨q, hq, rfl, hown, hbr, hcn⟩ := hrel
    by_cases hlt : q < N
    · have hc := hown.cell (k := q) (by rw [fp_len]; exact hlt)
      have hf := hown.frozen q
      have hqz : q < z.length := by rw [← HN.out]; exact hlt
      obtain ⟨hwf, b, off, hA, hbl, hcell⟩ := (hI.below hbr).sl q z[q] (List.getElem?_eq_getElem hqz)
      subst hA
      have hzq := hz z[q] (List.getElem_mem hqz)
      have hpt : pts z q = ((z[q] + 1) % 256).toNat := by simp [pts, hqz]
      obtain ⟨x, hx⟩ : ∃ x, x = z[q] := ⟨_, rfl⟩
      rw [← hx] at hcell hzq hpt
      obtain ⟨y, hy⟩ : ∃ y, y = ((x + 1) % 256).toNat := ⟨_, rfl⟩
      have hyb : y < 256 := by omega
      have HP := Lib.hid (dpoint_any x y hy wr)
      have HO := Lib.hid (hown.put (k := q) (by rw [fp_len]; exact hlt) (y := y) hyb)
      rw [fp_set (f := pts z) (by rw [hpt, hy])] at HO
      have HB := Lib.hid (hbr.setCell (p := ⟨w.heap.size + 1, q, none⟩) (by show w.heap.size ≤ w.heap.size + 1; omega) (.int .u8 (y : Int)))
      have HC := Lib.hid (show (wr.setCell ⟨w.heap.size + 1, q, none⟩ (.int .u8 (y : Int))).cell? ⟨w.heap.size, 0, none⟩ = some (.int .i64 P0) by rw [World.cell?_setCell_other _ _ _ _ (fun h => by injection h with h1; omega)]; exact hcn)
      clear hown hx hy hpt hwf hzq
      go_wp2_with fail
      refine HP.out.mono ?_
      rintro e _ ⟨rfl, rfl⟩
      go_wp2
      go_roundw
      case rel => exact ⟨q + 1, by omega, by go_num, HO.out, HB.out, HC.out⟩
      case measure => simp [intOf]; omega
    · obtain rfl : q = N := by omega
      rw [fp_all, HN.out, pts_all, ← HN.out] at hown
      have HO := Lib.hid hown.inn
      clear hown
      go_wp2
      go_ret
      exact ⟨_, _, rfl, HO.out, hbr⟩
end Go.Proofs.Ytaknffdokkfmgaa
end
section
/- A region that leaves its order open, where each operation's value is told by a predicate of its own that later growth of the world bears: whatever order comes, each operation is looked at once. -/
namespace Gt
open Go Go.RowKit

/-- What is asked of an operation's outcome. -/
def StepOK (P : Program) (R : World → World → Prop) (V : Value → World → Prop) (w : World) : Result Next → Prop
  | .ok (.value v) w' => R w w' ∧ V v w'
  | .ok .skip w' => R w w' ∧ V undef w'
  | .ok (.enter f args) w' => Calls P f args w' fun e w'' => ∃ v, e = .returned v ∧ R w w'' ∧ V v w''
  | _ => False
/-- Of an operation: which earlier ones' values it may know (number, slot); which slots it reads that stand as they were; its guard (slot, what is wanted). -/
structure Plan where
  ds : List (Nat × Nat)
  ks : List Nat
  gd : Option (Nat × Bool)
def preds (o : Oper) (j : Nat) : Bool := o.after.any fun e => Region.binds .any e && e.on == j
def dstB (ops : Array Oper) (j d : Nat) : Bool := match ops[j]? with | some o => o.dst == some d | none => false
def freeB (ops : Array Oper) (i k : Nat) : Bool := (List.range ops.size).all fun j => j == i || (match ops[j]? with | some o => o.dst != some k || preds o i | none => true)
def loneB (ops : Array Oper) (i : Nat) (o : Oper) : Bool := (List.range ops.size).all fun j => j == i || o.dst.isNone || (match ops[j]? with | some oj => oj.dst != o.dst | none => true)
def opB (ops : Array Oper) (n i : Nat) (o : Oper) (p : Plan) : Bool :=
  (match o.dst with | some d => decide (d < n) | none => true) && (o.after.all fun e => !Region.binds .any e || decide (e.on < i)) &&
  (p.ds.all fun x => dstB ops x.1 x.2 && preds o x.1) && (p.ks.all fun k => freeB ops i k) && loneB ops i o &&
  (match o.guard, p.gd with | none, none => true | some (g, b), some (d, b') => dstB ops g d && b == b' | _, _ => false)
def okB (ops : Array Oper) (n : Nat) (plan : List Plan) : Bool :=
  (List.range ops.size).all fun i => match ops[i]?, plan[i]? with | some o, some p => opB ops n i o p | _, _ => false
def endB (ops : Array Oper) (es : List (Nat × Nat)) (ks : List Nat) : Bool :=
  (es.all fun x => dstB ops x.1 x.2) && (ks.all fun k => (List.range ops.size).all fun j => match ops[j]? with | some o => o.dst != some k | none => true)

def Pre (T : Nat → Value → World → Prop) (a : Act) (w : World) : List (Nat × Nat) → Prop → Prop
  | [], G => G
  | x :: t, G => T x.1 (a.eval (.tmp x.2)) w → Pre T a w t G
def Kept (a a0 : Act) : List Nat → Prop → Prop
  | [], G => G
  | k :: t, G => a.eval (.tmp k) = a0.eval (.tmp k) → Kept a a0 t G
def Guarded (a : Act) (gd : Option (Nat × Bool)) (G N : Prop) : Prop :=
  match gd with
  | none => G
  | some (d, b) => (a.eval (.tmp d) = .bool b → G) ∧ (a.eval (.tmp d) ≠ .bool b → N)
def Ob (P : Program) (R : World → World → Prop) (T : Nat → Value → World → Prop) (a0 : Act) (w0 : World) (i : Nat) (o : Oper) (p : Plan) : Prop :=
  ∀ a w, R w0 w → Pre T a w p.ds (Kept a a0 p.ks (Guarded a p.gd (StepOK P R (T i) w ((execOp a.eval o).run P w)) (T i undef w)))
def Obs (P : Program) (R : World → World → Prop) (T : Nat → Value → World → Prop) (a0 : Act) (w0 : World) : Nat → List Oper → List Plan → Prop
  | i, o :: t, p :: ps => Ob P R T a0 w0 i o p ∧ Obs P R T a0 w0 (i + 1) t ps
  | _, _, _ => True

theorem Pre.out {T : Nat → Value → World → Prop} {a : Act} {w : World} {G : Prop} : ∀ {l : List (Nat × Nat)}, Pre T a w l G → (∀ x ∈ l, T x.1 (a.eval (.tmp x.2)) w) → G
  | [], h, _ => h
  | _ :: _, h, k => Pre.out (h (k _ (by simp))) fun x hx => k x (by simp [hx])
theorem Kept.out {a a0 : Act} {G : Prop} : ∀ {l : List Nat}, Kept a a0 l G → (∀ k ∈ l, a.eval (.tmp k) = a0.eval (.tmp k)) → G
  | [], h, _ => h
  | _ :: _, h, k => Kept.out (h (k _ (by simp))) fun x hx => k x (by simp [hx])

theorem dstB_spec {ops : Array Oper} {j d : Nat} (h : dstB ops j d = true) : ∃ o, ops[j]? = some o ∧ o.dst = some d := by
  unfold dstB at h
  cases ho : ops[j]? with
  | none => simp [ho] at h
  | some o => simp only [ho] at h; exact ⟨o, rfl, by simpa using h⟩
theorem preds_spec {o : Oper} {j : Nat} (h : preds o j = true) : ∃ e ∈ o.after, Region.binds .any e = true ∧ e.on = j := by
  unfold preds at h
  rw [Array.any_eq_true'] at h
  obtain ⟨e, he, h⟩ := h
  simp only [Bool.and_eq_true, beq_iff_eq] at h
  exact ⟨e, he, h.1, h.2⟩
theorem yielded_eval {ops : Array Oper} {a : Act} {g d : Nat} {b : Bool} (h : dstB ops g d = true) : (yielded ops a.tmps g == some b) = true ↔ a.eval (.tmp d) = .bool b := by
  obtain ⟨o, ho, hd⟩ := dstB_spec h
  unfold yielded
  simp only [ho, hd, Option.bind_some, Act.eval]
  cases hv : a.tmps[d]? with
  | none => simp [hv, undef]
  | some v => cases v <;> simp [hv]

section
variable {P : Program} {ops : Array Oper} {R : World → World → Prop} {T : Nat → Value → World → Prop} {a0 : Act} {w0 : World}

structure Inv (ops : Array Oper) (R : World → World → Prop) (T : Nat → Value → World → Prop) (a0 : Act) (w0 : World) (s : Array Bool) (a : Act) (w : World) : Prop where
  size : s.size = ops.size
  closed : ∀ j oj, ops[j]? = some oj → s.getD j false = true → ∀ e ∈ oj.after, Region.binds .any e = true → s.getD e.on false = true
  rel : R w0 w
  tmps : a.tmps.size = a0.tmps.size
  defers : a.defers = a0.defers
  old : ∀ k, (∀ j o, ops[j]? = some o → s.getD j false = true → o.dst ≠ some k) → a.eval (.tmp k) = a0.eval (.tmp k)
  vals : ∀ j o d, ops[j]? = some o → s.getD j false = true → o.dst = some d → T j (a.eval (.tmp d)) w

theorem okB_at {n : Nat} {plan : List Plan} (h : okB ops n plan = true) {i : Nat} {o : Oper} (ho : ops[i]? = some o) : ∃ p, plan[i]? = some p ∧ opB ops n i o p = true := by
  unfold okB at h
  rw [List.all_eq_true] at h
  have := h i (List.mem_range.2 (Array.getElem?_eq_some_iff.1 ho).1)
  rw [ho] at this
  cases hp : plan[i]? with
  | none => simp [hp] at this
  | some p => simp only [hp] at this; exact ⟨p, rfl, this⟩
theorem obs_at {t : List Oper} : ∀ {plan : List Plan} {k : Nat}, Obs P R T a0 w0 k t plan → ∀ {i : Nat} {o : Oper} {p : Plan}, t[i]? = some o → plan[i]? = some p → Ob P R T a0 w0 (k + i) o p := by
  induction t with
  | nil => intro plan k _ i o p h; simp at h
  | cons x t ih =>
    intro plan k h i o p h1 h2
    cases plan with
    | nil => simp at h2
    | cons q ps =>
      cases i with
      | zero => simp at h1 h2; subst h1 h2; exact h.1
      | succ i =>
        have := ih h.2 (i := i) (by simpa using h1) (by simpa using h2)
        rw [show k + (i + 1) = k + 1 + i from by omega]; exact this
theorem eval_put_same {a : Act} {d : Nat} {v : Value} (h : d < a.tmps.size) : (a.put (some d) v).eval (.tmp d) = v := by
  simp [Act.eval, Act.put, h]
theorem Inv.step {s : Array Bool} {a : Act} {w w' : World} {i : Nat} {o : Oper} {v : Value} {n : Nat} {p : Plan} (inv : Inv ops R T a0 w0 s a w) (ht : ∀ a b c, R a b → R b c → R a c) (hmono : ∀ i v w w', T i v w → R w w' → T i v w')
    (hn : a0.tmps.size = n) (hi : i ∈ Region.ready .any ops s) (ho : ops[i]? = some o) (hb : opB ops n i o p = true) (hw : R w w') (hv : T i v w') : Inv ops R T a0 w0 (s.setIfInBounds i true) (a.put o.dst v) w' := by
  obtain ⟨hun, oi, hoi, hall⟩ := mem_ready.1 hi
  rw [ho] at hoi
  obtain rfl : o = oi := by simpa using hoi
  have hsz : i < s.size := by rw [inv.size]; exact (Array.getElem?_eq_some_iff.1 ho).1
  simp only [opB, Bool.and_eq_true] at hb
  obtain ⟨⟨⟨⟨⟨hb1, _⟩, _⟩, _⟩, hb5⟩, _⟩ := hb
  have hset : ∀ j, (s.setIfInBounds i true).getD j false = true → j = i ∨ s.getD j false = true := fun j hj => by
    by_cases e : j = i
    · exact .inl e
    · right; rwa [getD_set_ne false (Ne.symm e)] at hj
  refine ⟨by simp [inv.size], fun j oj hj hl e he hbd => ?_, ht _ _ _ inv.rel hw, ?_, ?_, fun k hk => ?_, fun j oj d hj hl hd => ?_⟩
  · rcases hset j hl with rfl | h
    · rw [ho] at hj; obtain rfl : o = oj := by simpa using hj
      exact getD_set_true (hall e he hbd)
    · exact getD_set_true (inv.closed j oj hj h e he hbd)
  · rw [← inv.tmps]; cases o.dst <;> simp [Act.put]
  · rw [← inv.defers]; cases o.dst <;> simp [Act.put]
  · have h1 : o.dst ≠ some k := hk i o ho (by simp [hsz])
    rw [Act.eval_put fun d hd hx => h1 (by rw [hd]; injection hx with hx; rw [hx])]
    exact inv.old k fun j oj hj hl => hk j oj hj (getD_set_true hl)
  · rcases hset j hl with rfl | h
    · rw [ho] at hj; obtain rfl : o = oj := by simpa using hj
      rw [hd] at hb1 ⊢
      rw [eval_put_same (by rw [inv.tmps, hn]; simpa using hb1)]
      exact hv
    · by_cases e : j = i
      · subst e; rw [getD_both hun] at h; cases h
      · have h1 := (List.all_eq_true.1 hb5) j (List.mem_range.2 (Array.getElem?_eq_some_iff.1 hj).1)
        simp only [hj, Bool.or_eq_true, beq_iff_eq, e, false_or] at h1
        have hne : ∀ d', o.dst = some d' → Operand.tmp d ≠ .tmp d' := fun d' hd' hx => by
          injection hx with hx
          rcases h1 with h1 | h1
          · rw [hd'] at h1; cases h1
          · rw [hd', hd, hx] at h1; simp at h1
        rw [Act.eval_put fun d' hd' => hne d' hd']
        exact hmono _ _ _ _ (inv.vals j oj d hj h hd) hw

theorem done {s : Array Bool} {n : Nat} (hB : ∀ (i : Nat) (o : Oper), ops[i]? = some o → ∃ p, opB ops n i o p = true) (hs : s.size = ops.size) (hr : Region.ready .any ops s = []) : ∀ i, i < ops.size → s.getD i false = true := by
  intro i
  induction i using Nat.strongRecOn with
  | _ i ih =>
    intro hi
    by_cases h : s.getD i false = true
    · exact h
    · exfalso
      have ho : ops[i]? = some ops[i] := by simp [hi]
      have hun : s.getD i true = false := getD_in (by rw [hs]; exact hi) (by simpa using h)
      obtain ⟨p, hb⟩ := hB i _ ho
      simp only [opB, Bool.and_eq_true] at hb
      have h2 := hb.1.1.1.1.2
      rw [Array.all_eq_true'] at h2
      have : i ∈ Region.ready .any ops s := mem_ready.2 ⟨hun, _, ho, fun e he hbd => by
        have h3 := h2 e he
        simp only [hbd, Bool.not_true, Bool.false_or, decide_eq_true_eq] at h3
        exact ih e.on h3 (by omega)⟩
      rw [hr] at this
      cases this
/-- One operation that comes up. -/
theorem op_of {Q : Exit → Act → World → Prop} {K : Act → World → Prop} {ops : Array Oper} {n i : Nat} {o : Oper} {p : Plan} {s : Array Bool} {a : Act} {w : World} (hr : ∀ w, R w w) (inv : Inv ops R T a0 w0 s a w) (hi : i ∈ Region.ready .any ops s) (ho : ops[i]? = some o) (hb : opB ops n i o p = true)
    (hob1 : Ob P R T a0 w0 i o p) (hK : ∀ v w', R w w' → T i v w' → K (a.put o.dst v) w') : wpOp P ops Q i K a w := by
  obtain ⟨hun, oi, hoi, hall⟩ := mem_ready.1 hi
  rw [ho] at hoi
  obtain rfl : o = oi := by simpa using hoi
  have hob1 := hob1 a w inv.rel
  have hb' := hb
  simp only [opB, Bool.and_eq_true] at hb'
  obtain ⟨⟨⟨⟨⟨_, _⟩, hb3⟩, hb4⟩, _⟩, hb6⟩ := hb'
  have hob2 := hob1.out fun x hx => by
    have h1 := List.all_eq_true.1 hb3 x hx
    simp only [Bool.and_eq_true] at h1
    obtain ⟨oj, hoj, hdj⟩ := dstB_spec h1.1
    obtain ⟨e, he, hbd, hon⟩ := preds_spec h1.2
    exact inv.vals x.1 oj x.2 hoj (hon ▸ hall e he hbd) hdj
  have hob3 := hob2.out fun k hk => by
    have h1 := List.all_eq_true.1 hb4 k hk
    refine inv.old k fun j oj hj hl hd => ?_
    have h2 := List.all_eq_true.1 h1 j (List.mem_range.2 (Array.getElem?_eq_some_iff.1 hj).1)
    simp only [hj, Bool.or_eq_true, beq_iff_eq] at h2
    rcases h2 with rfl | h2
    · rw [getD_both hun] at hl; cases hl
    · rcases h2 with h2 | h2
      · rw [hd] at h2; simp at h2
      · obtain ⟨e, he, hbd, hon⟩ := preds_spec h2
        have h3 := inv.closed j oj hj hl e he hbd
        rw [hon, getD_both hun] at h3
        cases h3
  have hyes : StepOK P R (T i) w ((execOp a.eval o).run P w) → Oper.wp P o a w K Q := fun h => by
    unfold Oper.wp
    cases hr : (execOp a.eval o).run P w with
    | ok x w' =>
      rw [hr] at h
      cases x with
      | value u => exact hK _ _ h.1 h.2
      | skip => exact hK _ _ h.1 h.2
      | enter g args =>
        refine Calls.mono h fun e w'' he => ?_
        obtain ⟨v, rfl, h1, h2⟩ := he
        exact hK _ _ h1 h2
      | _ => exact h.elim
    | halt x w' => rw [hr] at h; exact h.elim
  unfold wpOp
  simp only [ho]
  unfold Region.wanted
  cases hg : o.guard with
  | none =>
    simp only [if_true]
    cases hpg : p.gd with
    | none => rw [hpg] at hob3; exact .inl (hyes hob3)
    | some q => simp [hg, hpg] at hb6
  | some q =>
    obtain ⟨g, b⟩ := q
    cases hpg : p.gd with
    | none => simp [hg, hpg] at hb6
    | some q2 =>
      obtain ⟨d, b'⟩ := q2
      simp only [hg, hpg, Bool.and_eq_true, beq_iff_eq] at hb6
      obtain ⟨hb7, rfl⟩ := hb6
      rw [hpg] at hob3
      simp only []
      by_cases hw : (yielded ops a.tmps g == some b) = true
      · rw [if_pos hw]; exact .inl (hyes (hob3.1 ((yielded_eval hb7).1 hw)))
      · rw [if_neg hw]; exact hK _ _ (hr w) (hob3.2 fun h => hw ((yielded_eval hb7).2 h))
theorem any_of {Q : Exit → Act → World → Prop} {n : Nat} {plan : List Plan} {t : List Oper} (hB : okB t.toArray n plan = true) (hn : a0.tmps.size = n) (hr : ∀ w, R w w) (ht : ∀ a b c, R a b → R b c → R a c) (hmono : ∀ i v w w', T i v w → R w w' → T i v w')
    (hob : Obs P R T a0 w0 0 t plan) (hQ : ∀ s a w, Inv t.toArray R T a0 w0 s a w → (∀ i, i < t.toArray.size → s.getD i false = true) → Q .normal a w) :
    ∀ (f : Nat) (s : Array Bool) (a : Act) (w : World), s.toList.count false = f → Inv t.toArray R T a0 w0 s a w → wpAny P .any t.toArray Q f s a w := by
  intro f
  induction f with
  | zero =>
    intro s a w hf inv
    have hr : Region.ready .any t.toArray s = [] := by
      rw [List.eq_nil_iff_forall_not_mem]
      intro i hi
      obtain ⟨hun, o, ho, _⟩ := mem_ready.1 hi
      have hlt : i < s.size := by rw [inv.size]; exact (Array.getElem?_eq_some_iff.1 ho).1
      have h1 : s[i] = false := by simpa [hlt] using hun
      have : false ∈ s.toList := by rw [← h1]; simp
      rw [List.count_eq_zero] at hf
      exact hf this
    exact ⟨hr, hQ s a w inv (done (n := n) (fun i o ho => (okB_at hB ho).imp fun p h => h.2) inv.size hr)⟩
  | succ f ih =>
    intro s a w hf inv
    refine ⟨fun hr => hQ s a w inv (done (n := n) (fun i o ho => (okB_at hB ho).imp fun p h => h.2) inv.size hr), fun i hi => ?_⟩
    obtain ⟨hun, o, ho, hall⟩ := mem_ready.1 hi
    have hlt : i < s.size := by rw [inv.size]; exact (Array.getElem?_eq_some_iff.1 ho).1
    have hcnt : (s.setIfInBounds i true).toList.count false = f := by
      have h1 : s[i] = false := by simpa [hlt] using hun
      rw [Array.toList_setIfInBounds, List.count_set (by simpa using hlt)]
      simp [h1, hf]
    obtain ⟨p, hp, hb⟩ := okB_at hB ho
    have hob1 := obs_at hob (i := i) (by simpa using ho) hp
    rw [Nat.zero_add] at hob1
    exact op_of hr inv hi ho hb hob1 fun v w' h1 h2 => ih _ _ _ hcnt (inv.step ht hmono hn hi ho hb h1 h2)

/-- **Each operation once, whatever order comes.** -/
theorem region {id : Nat} {Q : Exit → Act → World → Prop} {t : List Oper} (n : Nat) (plan : List Plan) (es : List (Nat × Nat)) (ks : List Nat) (hm : P.follows .mixedOrders = true) (hn : a0.tmps.size = n) (hB : okB t.toArray n plan = true) (hE : endB t.toArray es ks = true)
    (hr : ∀ w, R w w) (ht : ∀ a b c, R a b → R b c → R a c) (h0 : R w0 { w0 with drawn := w0.drawn + 1 }) (hmono : ∀ i v w w', T i v w → R w w' → T i v w')
    (hob : Obs P R T a0 w0 0 t plan) (hQ : ∀ a w, R w0 w → a.tmps.size = n → a.defers = a0.defers → Pre T a w es (Kept a a0 ks (Q .normal a w))) : (Code.region id t.toArray true).wp P Q a0 w0 := by
  refine wp_region_any hm (any_of (R := R) (T := T) (a0 := a0) (w0 := w0) hB hn hr ht hmono hob (fun s a w inv hall => ?_) _ _ _ _ (by simp) ⟨by simp, fun j oj _ hl => (by rw [getD_replicate_false] at hl; cases hl), h0, rfl, rfl, fun _ _ => rfl, fun j o d _ hl => (by rw [getD_replicate_false] at hl; cases hl)⟩)
  simp only [endB, Bool.and_eq_true] at hE
  refine ((hQ a w inv.rel (by rw [inv.tmps, hn]) inv.defers).out fun x hx => ?_).out fun k hk => ?_
  · obtain ⟨o, ho, hd⟩ := dstB_spec (List.all_eq_true.1 hE.1 x hx)
    exact inv.vals x.1 o x.2 ho (hall _ (Array.getElem?_eq_some_iff.1 ho).1) hd
  · refine inv.old k fun j o hj _ hd => ?_
    have h1 := List.all_eq_true.1 (List.all_eq_true.1 hE.2 k hk) j (List.mem_range.2 (Array.getElem?_eq_some_iff.1 hj).1)
    simp only [hj] at h1
    rw [hd] at h1
    simp at h1

/-- All of the first h are listed, and no other one. -/
def headS (m h : Nat) : Array Bool := ((List.range m).map fun i => decide (i < h)).toArray
theorem any_tail {Q : Exit → Act → World → Prop} {n h : Nat} {plan : List Plan} {t : List Oper} (hB : okB t.toArray n plan = true) (hn : a0.tmps.size = n) (hh : h < t.toArray.size) (hs : Region.sinkB .any t.toArray h = true) (hc : Region.chainB .any t.toArray h = true)
    (hq : Region.seqB .any t.toArray (t.drop h).length h (headS t.toArray.size h) = true) (hr : ∀ w, R w w) (ht : ∀ a b c, R a b → R b c → R a c) (hmono : ∀ i v w w', T i v w → R w w' → T i v w')
    (hob : Obs P R T a0 w0 0 (t.take h) plan) (hQ : ∀ s a w, Inv t.toArray R T a0 w0 s a w → (∀ i, i < h → s.getD i false = true) → (∀ j, h ≤ j → j < t.toArray.size → s.getD j true = false) → wpList P t.toArray Q (t.drop h) a w) :
    ∀ (f : Nat) (s : Array Bool) (a : Act) (w : World), (s.toList.take h).count false = f → Inv t.toArray R T a0 w0 s a w → (∀ j, h ≤ j → j < t.toArray.size → s.getD j true = false) → wpAny P .any t.toArray Q (f + (t.drop h).length) s a w := by
  intro f
  induction f with
  | zero =>
    intro s a w hf inv htl
    have hall : ∀ i, i < h → s.getD i false = true := fun i hi => by
      have hlt : i < s.size := by rw [inv.size]; omega
      by_cases e : s[i] = true
      · simp [hlt, e]
      · exfalso
        have h1 : s[i] = false := by simpa using e
        have : false ∈ s.toList.take h := by
          rw [List.mem_take_iff_getElem]
          exact ⟨i, by simp; omega, by simpa using h1⟩
        rw [List.count_eq_zero] at hf
        exact hf this
    have hse : s = headS t.toArray.size h := by
      apply Array.ext
      · simp [headS, inv.size]
      · intro i h1 h2
        have hi : i < t.toArray.size := by rw [← inv.size]; exact h1
        simp only [headS, List.getElem_toArray, List.getElem_map, List.getElem_range]
        by_cases e : i < h
        · have := hall i e
          simp only [e, decide_true]
          simpa [h1] using this
        · have := htl i (by omega) hi
          simp only [e, decide_false]
          simpa [h1] using this
    rw [Nat.zero_add]
    exact wpAny_of_seq (t.drop h) h s a w (fun j => by simp [List.getElem?_drop]) (by rw [hse]; exact hq) (hQ s a w inv hall htl)
  | succ f ih =>
    intro s a w hf inv htl
    rw [show f + 1 + (t.drop h).length = (f + (t.drop h).length) + 1 from by omega]
    have hB' : ∀ (i : Nat) (o : Oper), t.toArray[i]? = some o → ∃ p, opB t.toArray n i o p = true := fun i o ho => (okB_at hB ho).imp fun p h => h.2
    refine ⟨fun hr => ?_, fun i hi => ?_⟩
    · have h1 := done hB' inv.size hr h hh
      have h2 := getD_both (htl h (Nat.le_refl _) hh)
      rw [h2] at h1
      cases h1
    · obtain ⟨hun, o, ho, hall⟩ := mem_ready.1 hi
      have hlt : i < s.size := by rw [inv.size]; exact (Array.getElem?_eq_some_iff.1 ho).1
      have hhead : HeadInv .any t.toArray h s := ⟨inv.size, inv.closed, htl⟩
      have hih : i < h := by
        refine Nat.lt_of_not_le fun hle => ?_
        have : 0 < (s.toList.take h).count false := by omega
        rw [List.count_pos_iff, List.mem_take_iff_getElem] at this
        obtain ⟨k, hk, e⟩ := this
        have hk1 : k < h := by simp at hk; omega
        have hk2 : k < s.size := by simp at hk; omega
        have e' : s[k] = false := by simpa using e
        exact tail_waits hs hc hh hhead _ k rfl hk1 (by simp [hk2, e']) i hle hi
      have hcnt : ((s.setIfInBounds i true).toList.take h).count false = f := by
        have h1 : s[i] = false := by simpa [hlt] using hun
        rw [Array.toList_setIfInBounds, List.take_set, List.count_set (by simp; omega)]
        simp [h1, hf]
      obtain ⟨p, hp, hb⟩ := okB_at hB ho
      have hob1 := obs_at hob (i := i) (by rw [List.getElem?_take_of_lt hih]; simpa using ho) hp
      rw [Nat.zero_add] at hob1
      exact op_of hr inv hi ho hb hob1 fun v w' h1 h2 => ih _ _ _ hcnt (inv.step ht hmono hn hi ho hb h1 h2) fun j hj hj' => by
        rw [getD_set_ne true (by omega)]; exact htl j hj hj'
def tailB (t : List Oper) (h : Nat) : Bool := decide (h < t.toArray.size) && Region.sinkB .any t.toArray h && Region.chainB .any t.toArray h && Region.seqB .any t.toArray (t.drop h).length h (headS t.toArray.size h)
def endT (t : List Oper) (h : Nat) (es : List (Nat × Nat)) (ks : List Nat) : Bool :=
  (es.all fun x => decide (x.1 < h) && dstB t.toArray x.1 x.2) && (ks.all fun k => (List.range h).all fun j => match t.toArray[j]? with | some o => o.dst != some k | none => true)
/-- **Each of the first h operations once, whatever order comes; then the rest, one behind the other.** -/
theorem regionT {id : Nat} {Q : Exit → Act → World → Prop} {t : List Oper} (n h : Nat) (plan : List Plan) (es : List (Nat × Nat)) (ks : List Nat) (hm : P.follows .mixedOrders = true) (hn : a0.tmps.size = n) (hB : okB t.toArray n plan = true) (hT : tailB t h = true) (hE : endT t h es ks = true)
    (hr : ∀ w, R w w) (ht : ∀ a b c, R a b → R b c → R a c) (h0 : R w0 { w0 with drawn := w0.drawn + 1 }) (hmono : ∀ i v w w', T i v w → R w w' → T i v w')
    (hob : Obs P R T a0 w0 0 (t.take h) plan) (hQ : ∀ a w, R w0 w → a.tmps.size = n → a.defers = a0.defers → Pre T a w es (Kept a a0 ks (wpList P t.toArray Q (t.drop h) a w))) : (Code.region id t.toArray true).wp P Q a0 w0 := by
  simp only [tailB, Bool.and_eq_true, decide_eq_true_eq] at hT
  obtain ⟨⟨⟨h1, h2⟩, h3⟩, h4⟩ := hT
  have h1' : h < t.length := by simpa using h1
  have hsz : h + (t.drop h).length = t.toArray.size := by simp; omega
  have key := any_tail (Q := Q) (R := R) (T := T) (a0 := a0) (w0 := w0) hB hn h1 h2 h3 h4 hr ht hmono hob (fun s a w inv hall htl => ?_) h (Array.replicate t.toArray.size false) a0 { w0 with drawn := w0.drawn + 1 } (by simp; omega) ⟨by simp, fun j oj _ hl => (by rw [getD_replicate_false] at hl; cases hl), h0, rfl, rfl, fun _ _ => rfl, fun j o d _ hl => (by rw [getD_replicate_false] at hl; cases hl)⟩ (fun j _ hj => getD_in (by simpa using hj) (getD_replicate_false _ _))
  · rw [hsz] at key
    exact wp_region_any hm key
  · simp only [endT, Bool.and_eq_true] at hE
    refine ((hQ a w inv.rel (by rw [inv.tmps, hn]) inv.defers).out fun x hx => ?_).out fun k hk => ?_
    · have h5 := List.all_eq_true.1 hE.1 x hx
      simp only [Bool.and_eq_true, decide_eq_true_eq] at h5
      obtain ⟨o, ho, hd⟩ := dstB_spec h5.2
      exact inv.vals x.1 o x.2 ho (hall _ h5.1) hd
    · refine inv.old k fun j o hj hl hd => ?_
      by_cases e : j < h
      · have h5 := List.all_eq_true.1 (List.all_eq_true.1 hE.2 k hk) j (List.mem_range.2 e)
        simp only [hj] at h5
        rw [hd] at h5
        simp at h5
      · rw [getD_both (htl j (by omega) (Array.getElem?_eq_some_iff.1 hj).1)] at hl
        cases hl

end

/-- The world grew: nothing that was there has changed. -/
def Gr (w w' : World) : Prop := Below w.heap.size w w'
theorem Gr.refl (w : World) : Gr w w := Below.refl _ _
theorem Gr.trans (a b c : World) (h : Gr a b) (k : Gr b c) : Gr a c := Below.trans h (Below.mono k h.size)
theorem Gr.drew (w : World) : Gr w { w with drawn := w.drawn + 1 } := ⟨rfl, rfl, rfl, Nat.le_refl _, fun _ _ => rfl⟩
def tys (Ts : List (Value → World → Prop)) (i : Nat) : Value → World → Prop := Ts.getD i fun _ _ => True
def Mono (V : Value → World → Prop) : Prop := ∀ v w w', V v w → Gr w w' → V v w'
def Monos : List (Value → World → Prop) → Prop
  | [] => True
  | V :: t => Mono V ∧ Monos t
def Is (u : Value) : Value → World → Prop := fun v _ => v = u
theorem Is.mono (u : Value) : Mono (Is u) := fun _ _ _ h _ => h
theorem monos_at : ∀ {Ts : List (Value → World → Prop)}, Monos Ts → ∀ i v w w', tys Ts i v w → Gr w w' → tys Ts i v w'
  | [], _, _, _, _, _, _, _ => trivial
  | _ :: _, h, 0, v, w, w', hv, hg => h.1 v w w' hv hg
  | _ :: _, h, i + 1, v, w, w', hv, hg => monos_at h.2 i v w w' hv hg
/-- The same, in worlds that only grow. -/
theorem regionG {P : Program} {a0 : Act} {w0 : World} {id : Nat} {Q : Exit → Act → World → Prop} {t : List Oper} (Ts : List (Value → World → Prop)) (n : Nat) (plan : List Plan) (es : List (Nat × Nat)) (ks : List Nat) (hm : P.follows .mixedOrders = true) (hn : a0.tmps.size = n)
    (hB : okB t.toArray n plan = true) (hE : endB t.toArray es ks = true) (hmono : Monos Ts) (hob : Obs P Gr (tys Ts) a0 w0 0 t plan) (hQ : ∀ a w, Gr w0 w → a.tmps.size = n → a.defers = a0.defers → Pre (tys Ts) a w es (Kept a a0 ks (Q .normal a w))) : (Code.region id t.toArray true).wp P Q a0 w0 :=
  region (R := Gr) (T := tys Ts) n plan es ks hm hn hB hE Gr.refl Gr.trans (Gr.drew w0) (monos_at hmono) hob hQ
theorem act_ext {a b : Act} (hs : b.tmps.size = a.tmps.size) (hd : b.defers = a.defers) (h : ∀ k, b.eval (.tmp k) = a.eval (.tmp k)) : b = a := by
  obtain ⟨ta, da⟩ := a
  obtain ⟨tb, db⟩ := b
  simp only at hs hd
  subst hd
  congr 1
  apply Array.ext hs
  intro i h1 h2
  have := h i
  simpa [Act.eval, h1, h2] using this
/-- The values of some slots are put, one by one. -/
def puts (a : Act) (es : List (Nat × Nat)) (b : Act) : Act := es.foldl (fun b x => b.put (some x.2) (a.eval (.tmp x.2))) b
theorem puts_eq {a : Act} : ∀ {es : List (Nat × Nat)} {b : Act}, b.tmps.size = a.tmps.size → b.defers = a.defers → (∀ k, b.eval (.tmp k) = a.eval (.tmp k) ∨ k ∈ es.map (·.2)) → puts a es b = a
  | [], b, hs, hd, h => act_ext (b := b) hs hd fun k => by simpa using h k
  | x :: es, b, hs, hd, h => by
    show puts a es (b.put (some x.2) (a.eval (.tmp x.2))) = a
    refine puts_eq (by simp [Act.put, hs]) (by simp [Act.put, hd]) fun k => ?_
    by_cases e : k = x.2
    · left
      subst e
      by_cases hk : x.2 < b.tmps.size
      · exact eval_put_same hk
      · have h1 : a.tmps[x.2]? = none := by simp; omega
        simp [Act.eval, Act.put, h1, Array.setIfInBounds, hk]
    · rw [Act.eval_put fun d hd' hx => e (by injection hd' with hd'; injection hx with hx; exact hx.trans hd'.symm)]
      rcases h k with h1 | h1
      · exact .inl h1
      · rw [List.map_cons, List.mem_cons] at h1
        rcases h1 with h1 | h1
        · exact absurd h1 e
        · exact .inr h1
/-- All slots that the first h operations put are among es. -/
def allB (t : List Oper) (h : Nat) (es : List (Nat × Nat)) : Bool :=
  (es.all fun x => decide (x.1 < h) && dstB t.toArray x.1 x.2) && (List.range h).all fun j => match t.toArray[j]? with | some o => (match o.dst with | some d => es.any fun x => x.2 == d | none => true) | none => true
section
variable {P : Program} {a0 : Act} {w0 : World} {id : Nat} {Q : Exit → Act → World → Prop} {t : List Oper} {R : World → World → Prop} {T : Nat → Value → World → Prop}
theorem inv_end {h : Nat} {es : List (Nat × Nat)} {G : Act → Prop} (hE : allB t h es = true) {s : Array Bool} {a : Act} {w : World} (inv : Inv t.toArray R T a0 w0 s a w) (hall : ∀ i, i < h → s.getD i false = true) (htl : ∀ j, h ≤ j → j < t.toArray.size → s.getD j true = false)
    (hQ : Pre T a w es (G (puts a es a0))) : G a := by
  simp only [allB, Bool.and_eq_true] at hE
  have h1 := hQ.out fun x hx => by
    have h5 := List.all_eq_true.1 hE.1 x hx
    simp only [Bool.and_eq_true, decide_eq_true_eq] at h5
    obtain ⟨o, ho, hd⟩ := dstB_spec h5.2
    exact inv.vals x.1 o x.2 ho (hall _ h5.1) hd
  rw [puts_eq inv.tmps.symm inv.defers.symm fun k => ?_] at h1
  · exact h1
  · by_cases e : k ∈ es.map (·.2)
    · exact .inr e
    · refine .inl (inv.old k fun j o hj hl hd => ?_).symm
      have hjh : j < h := Nat.lt_of_not_le fun hle => by
        rw [getD_both (htl j hle (Array.getElem?_eq_some_iff.1 hj).1)] at hl; cases hl
      have h5 := List.all_eq_true.1 hE.2 j (List.mem_range.2 hjh)
      simp only [hj, hd] at h5
      rw [List.any_eq_true] at h5
      obtain ⟨x, hx, hk⟩ := h5
      exact e (List.mem_map.2 ⟨x, hx, by simpa using hk⟩)
/-- The whole region, each operation once; what is behind it begins with the slots as they are then. -/
theorem regionA (Ts : List (Value → World → Prop)) (n : Nat) (plan : List Plan) (es : List (Nat × Nat)) (hm : P.follows .mixedOrders = true) (hn : a0.tmps.size = n) (hB : okB t.toArray n plan = true) (hE : allB t t.length es = true) (hmono : Monos Ts)
    (hob : Obs P Gr (tys Ts) a0 w0 0 t plan) (hQ : ∀ a w, Gr w0 w → Pre (tys Ts) a w es (Q .normal (puts a es a0) w)) : (Code.region id t.toArray true).wp P Q a0 w0 := by
  refine wp_region_any hm (any_of (R := Gr) (T := tys Ts) (a0 := a0) (w0 := w0) hB hn Gr.refl Gr.trans (monos_at hmono) hob (fun s a w inv hall => ?_) _ _ _ _ (by simp) ⟨by simp, fun j oj _ hl => (by rw [getD_replicate_false] at hl; cases hl), Gr.drew w0, rfl, rfl, fun _ _ => rfl, fun j o d _ hl => (by rw [getD_replicate_false] at hl; cases hl)⟩)
  exact inv_end (G := fun a => Q .normal a w) hE inv (fun i hi => hall i (by simpa using hi)) (fun j h1 h2 => by simp at h2; omega) (hQ a w inv.rel)
/-- The first h operations, each once; then the rest, one behind the other. -/
theorem regionB (Ts : List (Value → World → Prop)) (n h : Nat) (plan : List Plan) (es : List (Nat × Nat)) (hm : P.follows .mixedOrders = true) (hn : a0.tmps.size = n) (hB : okB t.toArray n plan = true) (hT : tailB t h = true) (hE : allB t h es = true) (hmono : Monos Ts)
    (hob : Obs P Gr (tys Ts) a0 w0 0 (t.take h) plan) (hQ : ∀ a w, Gr w0 w → Pre (tys Ts) a w es (wpList P t.toArray Q (t.drop h) (puts a es a0) w)) : (Code.region id t.toArray true).wp P Q a0 w0 := by
  simp only [tailB, Bool.and_eq_true, decide_eq_true_eq] at hT
  obtain ⟨⟨⟨h1, h2⟩, h3⟩, h4⟩ := hT
  have h1' : h < t.length := by simpa using h1
  have hsz : h + (t.drop h).length = t.toArray.size := by simp; omega
  have key := any_tail (Q := Q) (R := Gr) (T := tys Ts) (a0 := a0) (w0 := w0) hB hn h1 h2 h3 h4 Gr.refl Gr.trans (monos_at hmono) hob (fun s a w inv hall htl => inv_end (G := fun a => wpList P t.toArray Q (t.drop h) a w) hE inv hall htl (hQ a w inv.rel)) h (Array.replicate t.toArray.size false) a0 { w0 with drawn := w0.drawn + 1 } (by simp; omega) ⟨by simp, fun j oj _ hl => (by rw [getD_replicate_false] at hl; cases hl), Gr.drew w0, rfl, rfl, fun _ _ => rfl, fun j o d _ hl => (by rw [getD_replicate_false] at hl; cases hl)⟩ (fun j _ hj => getD_in (by simpa using hj) (getD_replicate_false _ _))
  rw [hsz] at key
  exact wp_region_any hm key
end
theorem act_lit {a : Act} {n : Nat} {ds : List Deferred} (hs : a.tmps.size = n) (hd : a.defers = ds) : a = ⟨((List.range n).map fun k => a.eval (.tmp k)).toArray, ds⟩ := by
  obtain ⟨ts, df⟩ := a
  simp only at hs hd
  subst hs hd
  congr 1
  apply Array.ext
  · simp
  · intro i h1 h2
    simp [Act.eval, h1]

/-! What one operation does, from what it reads. -/
section
variable {P : Program} {w : World} {V : Value → World → Prop} {ρ : Operand → Value} {o : Oper}
theorem ok_run {v : Value} (h : (execOp ρ o).run P w = .ok (.value v) w) (hv : V v w) : StepOK P Gr V w ((execOp ρ o).run P w) := by
  rw [h]; exact ⟨Gr.refl w, hv⟩
theorem ok_runW {v : Value} {w' : World} (h : (execOp ρ o).run P w = .ok (.value v) w') (hg : Gr w w') (hv : V v w') : StepOK P Gr V w ((execOp ρ o).run P w) := by
  rw [h]; exact ⟨hg, hv⟩
theorem ok_move {x : Operand} (ho : o.op = .move x) (hv : V (ρ x) w) : StepOK P Gr V w ((execOp ρ o).run P w) := by
  refine ok_run (v := ρ x) ?_ hv
  unfold execOp; simp only [ho]; rfl
theorem ok_assign {x : Operand} (ho : o.op = .assign x) (hv : V (ρ x) w) : StepOK P Gr V w ((execOp ρ o).run P w) := by
  refine ok_run (v := ρ x) ?_ hv
  unfold execOp; simp only [ho]; rfl
theorem ok_pick {c x y : Operand} {b : Bool} (ho : o.op = .pick c x y) (hc : ρ c = .bool b) (hv : V (if b then ρ x else ρ y) w) : StepOK P Gr V w ((execOp ρ o).run P w) := by
  refine ok_run (v := if b then ρ x else ρ y) ?_ hv
  unfold execOp; simp only [ho, hc]; rfl
theorem ok_convert {s d : TypeId} {x : Operand} {u v : Value} (ho : o.op = .convert s d x) (hx : ρ x = u) (hr : (convert s d u).run P w = .ok v w) (hv : V v w) : StepOK P Gr V w ((execOp ρ o).run P w) := by
  refine ok_run (v := v) ?_ hv
  unfold execOp
  simp only [ho, hx]
  simp only [Sem.run_bind, hr]
  rfl
theorem ok_call {a : Act} {f : FuncId} {xs : Array Operand} {ts : Array TypeId} (ho : o.op = .call { callee := .value (.func f), args := xs, argTypes := ts }) (vs : Array Value) (hen : (callFunc f vs).run P w = .ok (.enter f vs) w) (hv : xs.map a.eval = vs)
    (hc : Calls P f vs w fun e w' => ∃ v, e = .returned v ∧ Gr w w' ∧ V v w') : StepOK P Gr V w ((execOp a.eval o).run P w) := by
  obtain ⟨dst, op, ty, pos, after, guard⟩ := o
  simp only at ho
  subst ho
  rw [execOp_call_go, hv]
  have e : #[] ++ vs ++ #[] = vs := by simp
  rw [e, hen]
  exact hc
end
end Gt
end
