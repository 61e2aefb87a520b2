/- For every input DealOthers returns true, and every argument reads behind the call as it did before: no condition. -/
import Derived.ProofKit
import Derived.OpenShut
import Derived.SizedLaws
import Derived.ChangeOld
import Derived.Carry
import Derived.Test.YtaknffdokkfmgaaRows
import Derived.Test.YtaknffdokkfmgaaJ2
import Derived.Test.YtaknffdokkfmgaaJ5
import Derived.Test.YtaknffdokkfmgaaJ14
namespace Go.Proofs.Ytaknffdokkfmgaa.dealOthers
open Go.ChangeShapes Go.WideShapes Go.ChangeAt Go.RowKit Go.Shelf Gw Pol

theorem own : ownKnob Try.prog.godebug = none := by kernel_rfl
theorem laidOut : laidOutB Try.prog = true := by kernel_rfl
theorem wf_nat9 {n : Nat} (h : n ≤ 9223372036854775807) : (Lit.int .i64 (n : Int)).wf = true := by
  have h1 : IntKind.i64.min ≤ (n : Int) := by
    have : IntKind.i64.min = -9223372036854775808 := by decide
    omega
  simp [Lit.wf]
  exact ⟨h1, by omega⟩
set_option maxRecDepth 100000 in
set_option maxHeartbeats 4000000 in
theorem side_there (n t k e r g : Nat) (h1 : 1 ≤ t) (h2 : 1 ≤ k) (h5 : t + k + 2 * e ≤ n) (h6 : n + k ≤ 255) (hg0 : goodB n t k e r = true) (hn40 : n ≤ 40) (hgn : g < n) (q C : Nat) (hqC : C = q % 10) (hq : q < 256) (A3 : Option Addr) (c3 M : Nat) (l3 : List Nat) (w : World) (hM : M = l3.length) (hMb : M ≤ 140737488351232) (w3 : In w w.heap.size A3 c3 l3) :
    Calls Try.prog 6 #[pv n t k e r, .int .i64 (g : Int), .int .u8 (q : Int), .slice A3 M c3] w fun e w' => e = .returned (.bool true) ∧ Below w.heap.size w w' := by
  have hC9 : C ≤ 9 := by omega
  have eC : (q : Int) % 10 = (C : Int) := by omega
  have eCw : IntKind.u8.wrap (C : Int) = (C : Int) := wrap_byte (by omega)
  obtain ⟨S1, hS1⟩ : ∃ S, S = t * C := ⟨_, rfl⟩
  obtain ⟨S2, hS2⟩ : ∃ S, S = (t + k - 1) * C := ⟨_, rfl⟩
  obtain ⟨S3, hS3⟩ : ∃ S, S = (t + k) * C := ⟨_, rfl⟩
  obtain ⟨v, hv⟩ : ∃ v, v = t + k := ⟨_, rfl⟩
  obtain ⟨u, hu⟩ : ∃ u, u = t + k - 1 := ⟨_, rfl⟩
  have e1 : (t : Int) * (C : Int) = (S1 : Int) := by rw [hS1]; simp
  have e2 : (u : Int) * (C : Int) = (S2 : Int) := by rw [hS2, hu]; simp
  have e3 : (v : Int) * (C : Int) = (S3 : Int) := by rw [hS3, hv]; simp
  have e4 : (t : Int) + (k : Int) = (v : Int) := by omega
  have e5 : (v : Int) - 1 = (u : Int) := by omega
  have b1 : S1 ≤ 255 * 9 := by rw [hS1]; exact Nat.mul_le_mul (by omega) hC9
  have b2 : S2 ≤ 255 * 9 := by rw [hS2]; exact Nat.mul_le_mul (by omega) hC9
  have b3 : S3 ≤ 255 * 9 := by rw [hS3]; exact Nat.mul_le_mul (by omega) hC9
  have hvb : v ≤ 255 := by omega
  have hub : u ≤ 255 := by omega
  have x1 : IntKind.i64.wrap (S1 : Int) = (S1 : Int) := by rw [IntKind.wrap_i64]; omega
  have x2 : IntKind.i64.wrap (S2 : Int) = (S2 : Int) := by rw [IntKind.wrap_i64]; omega
  have x3 : IntKind.i64.wrap (S3 : Int) = (S3 : Int) := by rw [IntKind.wrap_i64]; omega
  obtain ⟨bz, hbz⟩ : ∃ b, b = decide (l3.length = t * C) := ⟨_, rfl⟩
  obtain ⟨bb, hbb⟩ : ∃ b, b = decide (l3.length = (t + k - 1) * C) := ⟨_, rfl⟩
  obtain ⟨bm, hbm⟩ : ∃ b, b = decide (l3.length = (t + k) * C) := ⟨_, rfl⟩
  have z1 : ((M : Int) == (S1 : Int)) = bz := by rw [Bool.eq_iff_iff, beq_iff_eq, hbz, decide_eq_true_eq]; omega
  have z3 : ((M : Int) == (S3 : Int)) = bm := by rw [Bool.eq_iff_iff, beq_iff_eq, hbm, decide_eq_true_eq]; omega
  have z2 : ((M : Int) == (S2 : Int)) = bb := by rw [Bool.eq_iff_iff, beq_iff_eq, hbb, decide_eq_true_eq]; omega
  have HL1 := Lib.hid (show bz = true → C * t ≤ l3.length from fun h => by rw [hbz] at h; rw [of_decide_eq_true h, Nat.mul_comm]; exact Nat.le_refl _)
  have HL2 := Lib.hid (show bb = true → C * (t + k - 1) ≤ l3.length from fun h => by rw [hbb] at h; rw [of_decide_eq_true h, Nat.mul_comm]; exact Nat.le_refl _)
  have HL3 := Lib.hid (show bm = true → C * (t + k) ≤ l3.length from fun h => by rw [hbm] at h; rw [of_decide_eq_true h, Nat.mul_comm]; exact Nat.le_refl _)
  have hpb1 := Pbx.new w 23 n t k e r
  have hb1 : Below w.heap.size w (w.alloc (.cells #[.int .i64 (n : Int), .int .i64 (t : Int), .int .i64 (k : Int), .int .i64 (e : Int), .int .i64 (r : Int)] 23)) := (Below.refl _ w).alloc (Nat.le_refl _) _
  have HG := Lib.hid (rgood_any n t k e r (w.alloc (.cells #[.int .i64 (n : Int), .int .i64 (t : Int), .int .i64 (k : Int), .int .i64 (e : Int), .int .i64 (r : Int)] 23)))
  rw [hg0] at HG
  have HM := Lib.hid hM
  have HBZ := Lib.hid hbz
  have HBB := Lib.hid hbb
  have HBM := Lib.hid hbm
  clear hM hbz hbb hbm hS1 hS2 hS3 hv hu hqC
  have hgi : (g : Int) < (n : Int) := by omega
  go_enter Try.func6, Try.ntmps6
  go_wp2_with fail
  refine HG.out.mono ?_
  rintro _ w2 ⟨rfl, hb2⟩
  have HP2 := Lib.hid (hpb1.below hb2 hpb1.lt)
  have HB2 := Lib.hid (hb1.trans (hb2.mono hb1.size))
  clear hpb1 hb1 hb2 HG
  obtain ⟨y0, y1, y2, y3, y4⟩ := HP2.out
  go_wp2_with fail
  refine (new_any w2).mono ?_
  rintro _ w3' ⟨rfl, hF3, hb3⟩
  have HP3 := Lib.hid (HP2.out.below hb3 HP2.out.lt)
  have HB3 := Lib.hid (HB2.out.trans (hb3.mono HB2.out.size))
  have HI3 := Lib.hid ((w3.below HB3.out).more HB3.out.size)
  have HF3 := Lib.hid hF3
  clear y0 y1 y2 y3 y4 hb3 hF3
  obtain ⟨y0, y1, y2, y3, y4⟩ := HP3.out
  have hz := ans_b (l3.length = t * C) (fun h => dzeros_yes n t k e r hg0 w2.heap.size A3 c3 M C l3 HM.out w3' HF3.out HI3.out h (by omega)) (fun h => dzeros_no n t k e r hg0 w2.heap.size A3 c3 M C l3 HM.out w3' HF3.out HI3.out h (by omega) (by omega))
  rw [← HBZ.out] at hz
  have HZ := Lib.hid hz
  clear hz
  go_wp2_with fail
  refine HZ.out.mono ?_
  rintro _ w4 ⟨Az, cz, Lz, rfl, hAz, hb4⟩
  have HP4 := Lib.hid (HP3.out.below hb4 HP3.out.lt)
  have HB4 := Lib.hid (HB3.out.trans (hb4.mono HB3.out.size))
  have HI4 := Lib.hid ((HI3.out.below hb4).more hb4.size)
  have HF4 := Lib.hid (HF3.out.below hb4 HF3.out.lt)
  have HAZ := Lib.hid hAz
  clear y0 y1 y2 y3 y4 hb4 hAz HZ
  obtain ⟨y0, y1, y2, y3, y4⟩ := HP4.out
  have hz := ans_b (l3.length = (t + k - 1) * C) (fun h => dblinds_yes n t k e r g hg0 hgn w2.heap.size A3 c3 M C l3 HM.out w4 HF4.out HI4.out h (by omega)) (fun h => dblinds_no n t k e r g hg0 (wf_nat9 (by omega)) w2.heap.size A3 c3 M C l3 HM.out w4 HF4.out HI4.out (.inr (.inr h)) (by omega) (by omega))
  rw [← HBB.out] at hz
  have HZ := Lib.hid hz
  clear hz
  go_wp2_with fail
  refine HZ.out.mono ?_
  rintro _ w5 ⟨Ab, cb, Lb, rfl, hAb, hb5⟩
  have HP5 := Lib.hid (HP4.out.below hb5 HP4.out.lt)
  have HB5 := Lib.hid (HB4.out.trans (hb5.mono HB4.out.size))
  have HI5 := Lib.hid ((HI4.out.below hb5).more hb5.size)
  have HF5 := Lib.hid (HF4.out.below hb5 HF4.out.lt)
  have HAZ5 := Lib.hid (HAZ.out.below hb5)
  have HAB := Lib.hid hAb
  clear y0 y1 y2 y3 y4 hb5 hAb HZ
  obtain ⟨y0, y1, y2, y3, y4⟩ := HP5.out
  have hz := ans_b (l3.length = (t + k) * C) (fun h => dmasks_yes n t k e r hg0 w2.heap.size A3 c3 M C l3 HM.out w5 HF5.out HI5.out h (by omega)) (fun h => dmasks_no n t k e r hg0 w2.heap.size A3 c3 M C l3 HM.out w5 HF5.out HI5.out h (by omega) (by omega))
  rw [← HBM.out] at hz
  have HZ := Lib.hid hz
  clear hz
  go_wp2_with fail
  refine HZ.out.mono ?_
  rintro _ w6 ⟨Am, cm, Lm, rfl, hAm, hb6⟩
  have HP6 := Lib.hid (HP5.out.below hb6 HP5.out.lt)
  have HB6 := Lib.hid (HB5.out.trans (hb6.mono HB5.out.size))
  have HI6 := Lib.hid ((HI5.out.below hb6).more hb6.size)
  have HAZ6 := Lib.hid (HAZ5.out.below hb6)
  have HAB6 := Lib.hid (HAB.out.below hb6)
  have HAM6 := Lib.hid hAm
  clear y0 y1 y2 y3 y4 hb6 hAm HZ
  obtain ⟨y0, y1, y2, y3, y4⟩ := HP6.out
  go_wp2_with fail
  refine (answers_any w6).mono ?_
  rintro _ w7 ⟨rfl, hb7⟩
  have HP7 := Lib.hid (HP6.out.below hb7 HP6.out.lt)
  have HB7 := Lib.hid (HB6.out.trans (hb7.mono HB6.out.size))
  have HI7 := Lib.hid ((HI6.out.below hb7).more hb7.size)
  have HAZ7 := Lib.hid (HAZ6.out.below hb7)
  have HAB7 := Lib.hid (HAB6.out.below hb7)
  have HAM7 := Lib.hid (HAM6.out.below hb7)
  clear y0 y1 y2 y3 y4 hb7
  obtain ⟨y0, y1, y2, y3, y4⟩ := HP7.out
  go_wp2_with fail
  refine (is_any bz n t k g e r 2 (g : Int) h1 (by omega) h6 (by omega) (fun _ h => by omega) (by omega) Az A3 cz c3 M C Lz t l3 w7 HAZ7.out (by simp [eachN]) HM.out HI7.out HL1.out (by omega)).mono ?_
  rintro _ w8 ⟨rfl, hb8⟩
  have HP8 := Lib.hid (HP7.out.below hb8 HP7.out.lt)
  have HB8 := Lib.hid (HB7.out.trans (hb8.mono HB7.out.size))
  have HI8 := Lib.hid ((HI7.out.below hb8).more hb8.size)
  have HAB8 := Lib.hid (HAB7.out.below hb8)
  have HAM8 := Lib.hid (HAM7.out.below hb8)
  clear y0 y1 y2 y3 y4 hb8
  obtain ⟨y0, y1, y2, y3, y4⟩ := HP8.out
  go_wp2_with fail
  refine (is_any bb n t k g e r 3 (g : Int) h1 (by omega) h6 (by omega) (fun _ _ => rfl) (by omega) Ab A3 cb c3 M C Lb (t + k - 1) l3 w8 HAB8.out (by simp [eachN]) HM.out HI8.out HL2.out (by omega)).mono ?_
  rintro _ w9 ⟨rfl, hb9⟩
  have HP9 := Lib.hid (HP8.out.below hb9 HP8.out.lt)
  have HB9 := Lib.hid (HB8.out.trans (hb9.mono HB8.out.size))
  have HI9 := Lib.hid ((HI8.out.below hb9).more hb9.size)
  have HAM9 := Lib.hid (HAM8.out.below hb9)
  clear y0 y1 y2 y3 y4 hb9
  obtain ⟨y0, y1, y2, y3, y4⟩ := HP9.out
  go_wp2_with fail
  refine (is_any bm n t k g e r 4 (g : Int) h1 (by omega) h6 (by omega) (fun _ h => by omega) (by omega) Am A3 cm c3 M C Lm (t + k) l3 w9 HAM9.out (by simp [eachN]) HM.out HI9.out HL3.out (by omega)).mono ?_
  rintro _ w10 ⟨rfl, hb10⟩
  have HB10 := Lib.hid (HB9.out.trans (hb10.mono HB9.out.size))
  clear y0 y1 y2 y3 y4 hb10
  go_wp2
  go_ret
  exact ⟨rfl, HB10.out⟩
set_option maxRecDepth 100000 in
set_option maxHeartbeats 4000000 in
theorem side_away (n t k e r : Nat) (gi : Int) (h1 : 1 ≤ t) (h2 : 1 ≤ k) (h5 : t + k + 2 * e ≤ n) (h6 : n + k ≤ 255) (hg0 : goodB n t k e r = true) (hn40 : n ≤ 40) (hgi : gi < 0 ∨ (n : Int) ≤ gi) (hgw : (Lit.int .i64 gi).wf = true) (q C : Nat) (hqC : C = q % 10) (hq : q < 256) (A3 : Option Addr) (c3 M : Nat) (l3 : List Nat) (w : World) (hM : M = l3.length) (hMb : M ≤ 140737488351232) (w3 : In w w.heap.size A3 c3 l3) :
    Calls Try.prog 6 #[pv n t k e r, .int .i64 gi, .int .u8 (q : Int), .slice A3 M c3] w fun e w' => e = .returned (.bool true) ∧ Below w.heap.size w w' := by
  have hC9 : C ≤ 9 := by omega
  have eC : (q : Int) % 10 = (C : Int) := by omega
  have eCw : IntKind.u8.wrap (C : Int) = (C : Int) := wrap_byte (by omega)
  obtain ⟨S1, hS1⟩ : ∃ S, S = t * C := ⟨_, rfl⟩
  obtain ⟨S2, hS2⟩ : ∃ S, S = (t + k - 1) * C := ⟨_, rfl⟩
  obtain ⟨S3, hS3⟩ : ∃ S, S = (t + k) * C := ⟨_, rfl⟩
  obtain ⟨v, hv⟩ : ∃ v, v = t + k := ⟨_, rfl⟩
  obtain ⟨u, hu⟩ : ∃ u, u = t + k - 1 := ⟨_, rfl⟩
  have e1 : (t : Int) * (C : Int) = (S1 : Int) := by rw [hS1]; simp
  have e2 : (u : Int) * (C : Int) = (S2 : Int) := by rw [hS2, hu]; simp
  have e3 : (v : Int) * (C : Int) = (S3 : Int) := by rw [hS3, hv]; simp
  have e4 : (t : Int) + (k : Int) = (v : Int) := by omega
  have e5 : (v : Int) - 1 = (u : Int) := by omega
  have b1 : S1 ≤ 255 * 9 := by rw [hS1]; exact Nat.mul_le_mul (by omega) hC9
  have b2 : S2 ≤ 255 * 9 := by rw [hS2]; exact Nat.mul_le_mul (by omega) hC9
  have b3 : S3 ≤ 255 * 9 := by rw [hS3]; exact Nat.mul_le_mul (by omega) hC9
  have hvb : v ≤ 255 := by omega
  have hub : u ≤ 255 := by omega
  have x1 : IntKind.i64.wrap (S1 : Int) = (S1 : Int) := by rw [IntKind.wrap_i64]; omega
  have x2 : IntKind.i64.wrap (S2 : Int) = (S2 : Int) := by rw [IntKind.wrap_i64]; omega
  have x3 : IntKind.i64.wrap (S3 : Int) = (S3 : Int) := by rw [IntKind.wrap_i64]; omega
  obtain ⟨bz, hbz⟩ : ∃ b, b = decide (l3.length = t * C) := ⟨_, rfl⟩
  obtain ⟨bm, hbm⟩ : ∃ b, b = decide (l3.length = (t + k) * C) := ⟨_, rfl⟩
  have z1 : ((M : Int) == (S1 : Int)) = bz := by rw [Bool.eq_iff_iff, beq_iff_eq, hbz, decide_eq_true_eq]; omega
  have z3 : ((M : Int) == (S3 : Int)) = bm := by rw [Bool.eq_iff_iff, beq_iff_eq, hbm, decide_eq_true_eq]; omega
  have HL1 := Lib.hid (show bz = true → C * t ≤ l3.length from fun h => by rw [hbz] at h; rw [of_decide_eq_true h, Nat.mul_comm]; exact Nat.le_refl _)
  have HL2 := Lib.hid (show false = true → C * (t + k - 1) ≤ l3.length from fun h => by cases h)
  have HL3 := Lib.hid (show bm = true → C * (t + k) ≤ l3.length from fun h => by rw [hbm] at h; rw [of_decide_eq_true h, Nat.mul_comm]; exact Nat.le_refl _)
  have hpb1 := Pbx.new w 23 n t k e r
  have hb1 : Below w.heap.size w (w.alloc (.cells #[.int .i64 (n : Int), .int .i64 (t : Int), .int .i64 (k : Int), .int .i64 (e : Int), .int .i64 (r : Int)] 23)) := (Below.refl _ w).alloc (Nat.le_refl _) _
  have HG := Lib.hid (rgood_any n t k e r (w.alloc (.cells #[.int .i64 (n : Int), .int .i64 (t : Int), .int .i64 (k : Int), .int .i64 (e : Int), .int .i64 (r : Int)] 23)))
  rw [hg0] at HG
  have HM := Lib.hid hM
  have HBZ := Lib.hid hbz
  have HBM := Lib.hid hbm
  clear hM hbz hbm hS1 hS2 hS3 hv hu hqC
  have d1 : 0 ≤ gi → ¬ gi < (n : Int) := fun h h' => by omega
  go_enter Try.func6, Try.ntmps6
  go_wp2_with fail
  refine HG.out.mono ?_
  rintro _ w2 ⟨rfl, hb2⟩
  have HP2 := Lib.hid (hpb1.below hb2 hpb1.lt)
  have HB2 := Lib.hid (hb1.trans (hb2.mono hb1.size))
  clear hpb1 hb1 hb2 HG
  obtain ⟨y0, y1, y2, y3, y4⟩ := HP2.out
  go_wp2_with fail
  refine (new_any w2).mono ?_
  rintro _ w3' ⟨rfl, hF3, hb3⟩
  have HP3 := Lib.hid (HP2.out.below hb3 HP2.out.lt)
  have HB3 := Lib.hid (HB2.out.trans (hb3.mono HB2.out.size))
  have HI3 := Lib.hid ((w3.below HB3.out).more HB3.out.size)
  have HF3 := Lib.hid hF3
  clear y0 y1 y2 y3 y4 hb3 hF3
  obtain ⟨y0, y1, y2, y3, y4⟩ := HP3.out
  have hz := ans_b (l3.length = t * C) (fun h => dzeros_yes n t k e r hg0 w2.heap.size A3 c3 M C l3 HM.out w3' HF3.out HI3.out h (by omega)) (fun h => dzeros_no n t k e r hg0 w2.heap.size A3 c3 M C l3 HM.out w3' HF3.out HI3.out h (by omega) (by omega))
  rw [← HBZ.out] at hz
  have HZ := Lib.hid hz
  clear hz
  go_wp2_with fail
  refine HZ.out.mono ?_
  rintro _ w4 ⟨Az, cz, Lz, rfl, hAz, hb4⟩
  have HP4 := Lib.hid (HP3.out.below hb4 HP3.out.lt)
  have HB4 := Lib.hid (HB3.out.trans (hb4.mono HB3.out.size))
  have HI4 := Lib.hid ((HI3.out.below hb4).more hb4.size)
  have HF4 := Lib.hid (HF3.out.below hb4 HF3.out.lt)
  have HAZ := Lib.hid hAz
  clear y0 y1 y2 y3 y4 hb4 hAz HZ
  obtain ⟨y0, y1, y2, y3, y4⟩ := HP4.out
  have hz : Calls Try.prog 27 #[.pointer (some ⟨w2.heap.size, 0, none⟩), pv n t k e r, .int .i64 gi, .int .i64 (C : Int), .slice A3 M c3] w4 fun e w' => ∃ A2 c2 L, e = .returned (.tuple #[.slice A2 L c2, .bool false]) ∧ AnsIs false n (shRow (timL [0 + 1, 1] l3 (t + k - 1)) C) A2 c2 L w' ∧ Below w4.heap.size w4 w' := by
    refine (dblinds_no n t k e r gi hg0 hgw w2.heap.size A3 c3 M C l3 HM.out w4 HF4.out HI4.out (hgi.imp id .inl) (by omega) (by omega)).mono ?_
    rintro e w' ⟨A2, c2, rfl, hb⟩
    exact ⟨A2, c2, 0, rfl, ⟨fun e => (by cases e), fun _ => rfl⟩, hb⟩
  have HZ := Lib.hid hz
  clear hz
  go_wp2_with fail
  refine HZ.out.mono ?_
  rintro _ w5 ⟨Ab, cb, Lb, rfl, hAb, hb5⟩
  have HP5 := Lib.hid (HP4.out.below hb5 HP4.out.lt)
  have HB5 := Lib.hid (HB4.out.trans (hb5.mono HB4.out.size))
  have HI5 := Lib.hid ((HI4.out.below hb5).more hb5.size)
  have HF5 := Lib.hid (HF4.out.below hb5 HF4.out.lt)
  have HAZ5 := Lib.hid (HAZ.out.below hb5)
  have HAB := Lib.hid hAb
  clear y0 y1 y2 y3 y4 hb5 hAb HZ
  obtain ⟨y0, y1, y2, y3, y4⟩ := HP5.out
  have hz := ans_b (l3.length = (t + k) * C) (fun h => dmasks_yes n t k e r hg0 w2.heap.size A3 c3 M C l3 HM.out w5 HF5.out HI5.out h (by omega)) (fun h => dmasks_no n t k e r hg0 w2.heap.size A3 c3 M C l3 HM.out w5 HF5.out HI5.out h (by omega) (by omega))
  rw [← HBM.out] at hz
  have HZ := Lib.hid hz
  clear hz
  go_wp2_with fail
  refine HZ.out.mono ?_
  rintro _ w6 ⟨Am, cm, Lm, rfl, hAm, hb6⟩
  have HP6 := Lib.hid (HP5.out.below hb6 HP5.out.lt)
  have HB6 := Lib.hid (HB5.out.trans (hb6.mono HB5.out.size))
  have HI6 := Lib.hid ((HI5.out.below hb6).more hb6.size)
  have HAZ6 := Lib.hid (HAZ5.out.below hb6)
  have HAB6 := Lib.hid (HAB.out.below hb6)
  have HAM6 := Lib.hid hAm
  clear y0 y1 y2 y3 y4 hb6 hAm HZ
  obtain ⟨y0, y1, y2, y3, y4⟩ := HP6.out
  by_cases hg0' : 0 ≤ gi
  · have hgn := d1 hg0'
    clear d1
    go_wp2_with fail
    refine (answers_any w6).mono ?_
    rintro _ w7 ⟨rfl, hb7⟩
    have HP7 := Lib.hid (HP6.out.below hb7 HP6.out.lt)
    have HB7 := Lib.hid (HB6.out.trans (hb7.mono HB6.out.size))
    have HI7 := Lib.hid ((HI6.out.below hb7).more hb7.size)
    have HAZ7 := Lib.hid (HAZ6.out.below hb7)
    have HAB7 := Lib.hid (HAB6.out.below hb7)
    have HAM7 := Lib.hid (HAM6.out.below hb7)
    clear y0 y1 y2 y3 y4 hb7
    obtain ⟨y0, y1, y2, y3, y4⟩ := HP7.out
    go_wp2_with fail
    refine (is_any bz n t k 0 e r 2 gi h1 (by omega) h6 (by omega) (fun _ h => by omega) (by omega) Az A3 cz c3 M C Lz t l3 w7 HAZ7.out (by simp [eachN]) HM.out HI7.out HL1.out (by omega)).mono ?_
    rintro _ w8 ⟨rfl, hb8⟩
    have HP8 := Lib.hid (HP7.out.below hb8 HP7.out.lt)
    have HB8 := Lib.hid (HB7.out.trans (hb8.mono HB7.out.size))
    have HI8 := Lib.hid ((HI7.out.below hb8).more hb8.size)
    have HAB8 := Lib.hid (HAB7.out.below hb8)
    have HAM8 := Lib.hid (HAM7.out.below hb8)
    clear y0 y1 y2 y3 y4 hb8
    obtain ⟨y0, y1, y2, y3, y4⟩ := HP8.out
    go_wp2_with fail
    refine (is_any false n t k 0 e r 3 gi h1 (by omega) h6 (by omega) (fun h => by cases h) (by omega) Ab A3 cb c3 M C Lb (t + k - 1) l3 w8 HAB8.out (by simp [eachN]) HM.out HI8.out HL2.out (by omega)).mono ?_
    rintro _ w9 ⟨rfl, hb9⟩
    have HP9 := Lib.hid (HP8.out.below hb9 HP8.out.lt)
    have HB9 := Lib.hid (HB8.out.trans (hb9.mono HB8.out.size))
    have HI9 := Lib.hid ((HI8.out.below hb9).more hb9.size)
    have HAM9 := Lib.hid (HAM8.out.below hb9)
    clear y0 y1 y2 y3 y4 hb9
    obtain ⟨y0, y1, y2, y3, y4⟩ := HP9.out
    go_wp2_with fail
    refine (is_any bm n t k 0 e r 4 gi h1 (by omega) h6 (by omega) (fun _ h => by omega) (by omega) Am A3 cm c3 M C Lm (t + k) l3 w9 HAM9.out (by simp [eachN]) HM.out HI9.out HL3.out (by omega)).mono ?_
    rintro _ w10 ⟨rfl, hb10⟩
    have HB10 := Lib.hid (HB9.out.trans (hb10.mono HB9.out.size))
    clear y0 y1 y2 y3 y4 hb10
    go_wp2
    go_ret
    exact ⟨rfl, HB10.out⟩
  · clear d1
    go_wp2_with fail
    refine (answers_any w6).mono ?_
    rintro _ w7 ⟨rfl, hb7⟩
    have HP7 := Lib.hid (HP6.out.below hb7 HP6.out.lt)
    have HB7 := Lib.hid (HB6.out.trans (hb7.mono HB6.out.size))
    have HI7 := Lib.hid ((HI6.out.below hb7).more hb7.size)
    have HAZ7 := Lib.hid (HAZ6.out.below hb7)
    have HAB7 := Lib.hid (HAB6.out.below hb7)
    have HAM7 := Lib.hid (HAM6.out.below hb7)
    clear y0 y1 y2 y3 y4 hb7
    obtain ⟨y0, y1, y2, y3, y4⟩ := HP7.out
    go_wp2_with fail
    refine (is_any bz n t k 0 e r 2 gi h1 (by omega) h6 (by omega) (fun _ h => by omega) (by omega) Az A3 cz c3 M C Lz t l3 w7 HAZ7.out (by simp [eachN]) HM.out HI7.out HL1.out (by omega)).mono ?_
    rintro _ w8 ⟨rfl, hb8⟩
    have HP8 := Lib.hid (HP7.out.below hb8 HP7.out.lt)
    have HB8 := Lib.hid (HB7.out.trans (hb8.mono HB7.out.size))
    have HI8 := Lib.hid ((HI7.out.below hb8).more hb8.size)
    have HAB8 := Lib.hid (HAB7.out.below hb8)
    have HAM8 := Lib.hid (HAM7.out.below hb8)
    clear y0 y1 y2 y3 y4 hb8
    obtain ⟨y0, y1, y2, y3, y4⟩ := HP8.out
    go_wp2_with fail
    refine (is_any false n t k 0 e r 3 gi h1 (by omega) h6 (by omega) (fun h => by cases h) (by omega) Ab A3 cb c3 M C Lb (t + k - 1) l3 w8 HAB8.out (by simp [eachN]) HM.out HI8.out HL2.out (by omega)).mono ?_
    rintro _ w9 ⟨rfl, hb9⟩
    have HP9 := Lib.hid (HP8.out.below hb9 HP8.out.lt)
    have HB9 := Lib.hid (HB8.out.trans (hb9.mono HB8.out.size))
    have HI9 := Lib.hid ((HI8.out.below hb9).more hb9.size)
    have HAM9 := Lib.hid (HAM8.out.below hb9)
    clear y0 y1 y2 y3 y4 hb9
    obtain ⟨y0, y1, y2, y3, y4⟩ := HP9.out
    go_wp2_with fail
    refine (is_any bm n t k 0 e r 4 gi h1 (by omega) h6 (by omega) (fun _ h => by omega) (by omega) Am A3 cm c3 M C Lm (t + k) l3 w9 HAM9.out (by simp [eachN]) HM.out HI9.out HL3.out (by omega)).mono ?_
    rintro _ w10 ⟨rfl, hb10⟩
    have HB10 := Lib.hid (HB9.out.trans (hb10.mono HB9.out.size))
    clear y0 y1 y2 y3 y4 hb10
    go_wp2
    go_ret
    exact ⟨rfl, HB10.out⟩
set_option maxRecDepth 100000 in
set_option maxHeartbeats 1000000 in
theorem side_bad (a0 T0 K0 E0 R0 gi : Int) (q C : Nat) (hqC : C = q % 10) (hq : q < 256) (A3 : Option Addr) (c3 M : Nat) (w : World) (hbad : goodB a0 T0 K0 E0 R0 = false ∨ 40 < a0) :
    Calls Try.prog 6 #[pv a0 T0 K0 E0 R0, .int .i64 gi, .int .u8 (q : Int), .slice A3 M c3] w fun e w' => e = .returned (.bool true) ∧ Below w.heap.size w w' := by
  have eC : (q : Int) % 10 = (C : Int) := by omega
  have eCw : IntKind.u8.wrap (C : Int) = (C : Int) := wrap_byte (by omega)
  have hpb1 := Pbx.new w 23 a0 T0 K0 E0 R0
  have hb1 : Below w.heap.size w (w.alloc (.cells #[.int .i64 a0, .int .i64 T0, .int .i64 K0, .int .i64 E0, .int .i64 R0] 23)) := (Below.refl _ w).alloc (Nat.le_refl _) _
  have HG := Lib.hid (rgood_any a0 T0 K0 E0 R0 (w.alloc (.cells #[.int .i64 a0, .int .i64 T0, .int .i64 K0, .int .i64 E0, .int .i64 R0] 23)))
  clear hqC
  cases hgb : goodB a0 T0 K0 E0 R0 with
  | false =>
    rw [hgb] at HG
    clear hbad hgb
    go_enter Try.func6, Try.ntmps6
    go_wp2_with fail
    refine HG.out.mono ?_
    rintro _ w2 ⟨rfl, hb2⟩
    have z0 := (hpb1.below hb2 hpb1.lt).c0
    have HB2 := Lib.hid (hb1.trans (hb2.mono hb1.size))
    clear hpb1 hb1 hb2 HG
    go_wp2_with fail
    refine (answers_any _).mono ?_
    rintro e w6 ⟨rfl, hb6⟩
    go_wp2
    go_ret
    exact ⟨rfl, HB2.out.trans (hb6.mono HB2.out.size)⟩
  | true =>
    have ha : 40 < a0 := by
      rcases hbad with h | h
      · rw [hgb] at h; cases h
      · exact h
    rw [hgb] at HG
    clear hbad hgb
    go_enter Try.func6, Try.ntmps6
    go_wp2_with fail
    refine HG.out.mono ?_
    rintro _ w2 ⟨rfl, hb2⟩
    have z0 := (hpb1.below hb2 hpb1.lt).c0
    have HB2 := Lib.hid (hb1.trans (hb2.mono hb1.size))
    clear hpb1 hb1 hb2 HG
    go_wp2_with fail
    refine (answers_any _).mono ?_
    rintro e w6 ⟨rfl, hb6⟩
    go_wp2
    go_ret
    exact ⟨rfl, HB2.out.trans (hb6.mono HB2.out.size)⟩
theorem walk (a0 T0 K0 E0 R0 : Int) (a1 a2 : Int) (A3 : Option Addr) (c3 : Nat) (l3 : List Nat) (w : World) (_w0 : (Lit.int .i64 a0).wf = true ∧ (Lit.int .i64 T0).wf = true ∧ (Lit.int .i64 K0).wf = true ∧ (Lit.int .i64 E0).wf = true ∧ (Lit.int .i64 R0).wf = true) (w1 : (Lit.int .i64 a1).wf = true) (w2 : (Lit.int .u8 a2).wf = true) (w3 : In w w.heap.size A3 c3 l3) (s3 : c3 ≤ 140737488351232) :
    Calls Try.prog 6 #[pv a0 T0 K0 E0 R0, .int .i64 a1, .int .u8 a2, .slice A3 l3.length c3] w fun e w' => e = .returned (.bool true) ∧ Below w.heap.size w w' := by
  have hc3 := w3.cap
  obtain ⟨g1, g2⟩ := bounds_u8 w2
  obtain ⟨q, rfl⟩ := Int.eq_ofNat_of_zero_le g1
  have hq : q < 256 := by omega
  by_cases hbad : goodB a0 T0 K0 E0 R0 = false ∨ 40 < a0
  · exact side_bad a0 T0 K0 E0 R0 a1 q _ rfl hq A3 c3 l3.length w hbad
  · have hg : goodB a0 T0 K0 E0 R0 = true := by
      cases h : goodB a0 T0 K0 E0 R0 with
      | true => rfl
      | false => exact absurd (.inl h) hbad
    obtain ⟨n, t, k, e, r, rfl, rfl, rfl, rfl, rfl, h1, h2, h3, h4, h5, h6⟩ := goodB_nat hg
    have hn : n ≤ 40 := by omega
    by_cases hth : 0 ≤ a1 ∧ a1 < (n : Int)
    · obtain ⟨g, rfl⟩ : ∃ g : Nat, a1 = (g : Int) := ⟨a1.toNat, by omega⟩
      exact side_there n t k e r g h1 h2 h5 h6 hg hn (by omega) q _ rfl hq A3 c3 _ l3 w rfl (by omega) w3
    · exact side_away n t k e r a1 h1 h2 h5 h6 hg hn (by omega) w1 q _ rfl hq A3 c3 _ l3 w rfl (by omega) w3

set_option maxRecDepth 100000 in
theorem lifted (os : Os) (started : os.Started) (H : Type) (enc : TypeId × Value → H) :
    ReturnsInHanded {} Try.checked os 6 .any (Rows.dealOthersSpec.pre6 enc Try.prog Try.f6 Rows.dealOthersRow.domain false) (Rows.dealOthersSpec.post enc Try.prog Try.f6 false true false false) := by
  refine returnsInHanded_of_change_sized (C := Try.checked) own started (by kernel_rfl) Try.func6
    (ChangeSpec.witness6 (enc := enc) (C := Try.checked) false ⟨#[], #[.agg #[.int .i64 0, .int .i64 0, .int .i64 0, .int .i64 0, .int .i64 0], .int .i64 0, .int .u8 0, .slice none 0 0], []⟩ 8 (by kernel_rfl) (by kernel_rfl) (by kernel_rfl) (by kernel_rfl)) ?_
  intro W base args ds gs before hval0 hW _hcnd hsz0 _
  have hval : ∀ (j : Nat) t v, Try.f6.params[j]? = some t → args[j]? = some v → Value.okWide Try.prog W .any base t v := hval0
  have hW' := hW
  obtain ⟨p, q, hA0, hV, rfl, _hfz, _hnd⟩ := hW
  have hA : DataW.TrodAll enc Try.prog W 0 (fun _ => true) true Try.f6.params.toList args.toList ds p := hA0
  have hsz : (DataW.weightsEach Try.prog (Try.f6.params.toList ++ Rows.dealOthersSpec.plain.varTypes Try.prog) (ds ++ gs)).all (· ≤ reachBytes) = true := hsz0
  rw [Try.params6] at hA hval hsz
  obtain ⟨v0, vs0, d0, ds0, p0, q0, hargs, rfl, rfl, h0, r0⟩ := trodAll_cons hA
  obtain ⟨v1, vs1, d1, ds1, p1, q1, rfl, rfl, rfl, h1, r1⟩ := trodAll_cons r0
  obtain ⟨v2, vs2, d2, ds2, p2, q2, rfl, rfl, rfl, h2, r2⟩ := trodAll_cons r1
  obtain ⟨v3, vs3, d3, ds3, p3, q3, rfl, rfl, rfl, h3, r3⟩ := trodAll_cons r2
  obtain ⟨rfl, rfl, rfl⟩ := trodAll_nil r3
  obtain rfl : args = #[v0, v1, v2, v3] := by cases args; simp_all
  obtain ⟨rfl, rfl⟩ := trodVars_none hV
  obtain ⟨a0, T0, K0, E0, R0, rfl, rfl, rfl, w0⟩ := open_five Try.underlying23 (by kernel_rfl) (by kernel_rfl) rfl rfl rfl rfl rfl Try.underlying3 (hval 0 23 v0 rfl rfl) h0
  obtain ⟨a1, rfl, rfl, rfl, w1⟩ := open_int Try.underlying3 (hval 1 3 v1 rfl rfl) h1
  obtain ⟨a2, rfl, rfl, rfl, w2⟩ := open_int Try.underlying5 (hval 2 5 v2 rfl rfl) h2
  have k3 := h3
  have lt3 : ∀ x ∈ p3, x.block < W.heap.size := by obtain ⟨m, hm⟩ := k3; exact DataW.trod_lt m _ _ _ hm
  obtain ⟨A3, c3, l3, rfl, w3, sz3⟩ := open_bytes Try.underlying28 Try.underlying5 (by kernel_rfl) (hval 3 28 v3 rfl rfl) h3
  have s3 := sized_bytes hsz (j := 3) (t := 28) (e := 5) rfl rfl Try.underlying28 (by kernel_rfl) sz3
  clear hA0 hval0 hsz0 hsz
  refine (walk a0 T0 K0 E0 R0 a1 a2 A3 c3 l3 W w0 w1 w2 w3 s3).mono fun e W' ⟨he, bel⟩ => ?_
  subst he
  exact ⟨_, rfl, _, _, _, [], _, [], hW', trodAll_mk1 (shut_bool Try.underlying4 _), (trodAll_cons_mk (shut_five Try.underlying23 (by kernel_rfl) (by kernel_rfl) rfl rfl rfl rfl rfl Try.underlying3 w0) (trodAll_cons_mk (shut_int Try.underlying3 w1) (trodAll_cons_mk (shut_int Try.underlying5 w2) (trodAll_cons_mk (Below.trod laidOut (by kernel_rfl) (of_decide_eq_true (by kernel_rfl)) k3 bel lt3) trodAll_mk0)))), rfl, bel.frame _, fun h => by cases h⟩

theorem over : Rows.dealOthersRow.holds Try.pinned (OpenSpec.ofChange Rows.dealOthersSpec) :=
  OpenClaim.holds_of_wide 6 Try.f6 rfl rfl rfl rfl rfl rfl rfl ⟨rfl, rfl, rfl, rfl, rfl⟩ rfl rfl rfl rfl rfl (by kernel_rfl) Try.func6 (by kernel_rfl)
    (of_decide_eq_true (by kernel_rfl)) (by unfold Func.isWrapper; first | (rw [if_pos (by decide +kernel)]; kernel_rfl) | (rw [if_neg (by decide +kernel)]; exact ⟨rfl, rfl⟩))
    (fun os started H enc _ => lifted os started H enc)

end Go.Proofs.Ytaknffdokkfmgaa.dealOthers
namespace Go.Proofs.Ytaknffdokkfmgaa
/-- The statement. -/
theorem dealOthers_holds : Rows.DealOthersSaid := dealOthers.over
#print axioms dealOthers_holds
end Go.Proofs.Ytaknffdokkfmgaa

