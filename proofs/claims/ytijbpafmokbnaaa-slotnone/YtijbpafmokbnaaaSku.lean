/- The program's slot: Turn, Clean; a Save that is too large. -/
import Derived.Test.YtijbpafmokbnaaaSks
import Derived.StillTailTactics
namespace Go.Proofs.Ytijbpafmokbnaaa
open Go.RowKit Go.Shelf Gw Pol
/-- A root laid in a box of its own. -/
theorem rootbox (w : World) (x y : Value) : Below w.heap.size w (w.alloc (.cells #[x, y] 54)) ∧ (w.alloc (.cells #[x, y] 54)).cell? ⟨w.heap.size, 0, none⟩ = some x ∧
    (w.alloc (.cells #[x, y] 54)).cell? ⟨w.heap.size, 1, none⟩ = some y ∧ (w.alloc (.cells #[x, y] 54)).heap.size = w.heap.size + 1 :=
  ⟨(Below.refl _ w).alloc (Nat.le_refl _) _, World.cell?_alloc_new w _ _ 0, World.cell?_alloc_new w _ _ 1, by simp⟩
theorem blk_none {K : List Nat} {i : Nat} (h : K.length ≤ 32 * i) : blk K i = z32 :=
  ext32 (blk_len _ _) rfl fun t ht => by rw [co_blk K i t ht, co_z32, co_ge (by omega)]
set_option maxRecDepth 100000 in
set_option maxHeartbeats 1000000 in
theorem zclean_any (a p g r side : Nat) (L K : List Nat) (s : Pw) (w : World) (h : Sz w a p g r L s) (hd : Sd r L side K) (hc : Cl r L side) :
    Calls Try.prog 20 #[.pointer (some ⟨a, 0, none⟩)] w fun e w' => e = .returned (.bool true) ∧ Below w.heap.size w w' := by
  have hd2 := hd.two
  have hfew := hd.few
  have hfit := hd.fit
  have hz1 := (cl_iff hd.len hd.two).1 hc
  obtain ⟨m, hm⟩ : ∃ m, m = K.length := ⟨_, rfl⟩
  obtain ⟨t, ht⟩ : ∃ t, t = tk m := ⟨_, rfl⟩
  have htr : t ≤ r := by rw [ht, tk_le]; omega
  have hz2 : ∀ i, i < r - t → piece L (1 + side * r + t + i) = z32 := fun i hi => by
    have h1 := hd.block (i := t + i) (by omega)
    rw [Nat.add_assoc _ t i, h1]
    exact blk_none (by rw [ht, hm]; unfold tk; omega)
  have hm2 : m ≤ 16384 := by omega
  have hs1 : (1 - side) * r ≤ r := by rcases (by omega : side = 0 ∨ side = 1) with e | e <;> rw [e] <;> omega
  have hs2 : side * r ≤ r := by rcases (by omega : side = 0 ∨ side = 1) with e | e <;> rw [e] <;> omega
  have e1 : (1 : Int) - (side : Int) = ((1 - side : Nat) : Int) := by omega
  have e2 : ((1 + side * r : Nat) : Int) + (t : Int) = ((1 + side * r + t : Nat) : Int) := by omega
  have e3 : (r : Int) - (t : Int) = ((r - t : Nat) : Int) := by omega
  have HE1 := Lib.hid e1
  have HE2 := Lib.hid e2
  have HE3 := Lib.hid e3
  have HR := Lib.hid (zroot_any a p g r side L K s w h hd)
  rw [← hm] at HR
  have HT := Lib.hid ht
  have HS := Lib.hid h
  have HZ1 := Lib.hid hz1
  have HZ2 := Lib.hid hz2
  have b1 : side * r + t ≤ 2 * r := by omega
  clear e1 e2 e3 hz1 hz2 ht hm h hd hc hfit
  obtain ⟨f1, hf1⟩ : ∃ f1, f1 = 1 + (1 - side) * r := ⟨_, rfl⟩
  obtain ⟨f2, hf2⟩ : ∃ f2, f2 = 1 + side * r := ⟨_, rfl⟩
  have HF1 := Lib.hid hf1
  have HF2 := Lib.hid hf2
  have hf1r : f1 ≤ 1 + r := by omega
  have hf2r : f2 ≤ 1 + r := by omega
  rw [← hf1] at HZ1
  rw [← hf2] at HZ2 HE2
  clear hf1 hf2
  go_enter Try.func20, Try.ntmps20
  go_wp2_with fail
  refine HR.out.mono ?_
  rintro e w1 ⟨rfl, hb1⟩
  have h1 := HS.out.below hb1 (Nat.le_refl _)
  have HB1 := Lib.hid hb1
  have HS1 := Lib.hid h1
  clear hb1 h1 HR
  go_wp2_with fail
  refine (zroom_any a p g r L s w1 HS1.out).mono ?_
  rintro e w2 ⟨rfl, rfl⟩
  obtain ⟨W, hW⟩ : ∃ W, W = w2.alloc (.cells #[.int .i64 (side : Int), .int .i64 (m : Int)] 54) := ⟨_, rfl⟩
  obtain ⟨g1, g2, g3, g4⟩ := rootbox w2 (.int .i64 (side : Int)) (.int .i64 (m : Int))
  rw [← hW] at g1 g2 g3 g4
  have HW := Lib.hid hW
  clear hW
  go_wp2_with fail
  rw [← HW.out]
  refine (ztakes_any m (by omega) W).mono ?_
  rintro e w3 ⟨rfl, rfl⟩
  have hSW := Lib.hid (HS1.out.below g1 (Nat.le_refl _))
  have HB2 := Lib.hid (HB1.out.trans (g1.mono HB1.out.size))
  rw [← HT.out]
  clear g1 HW
  go_wp2_with fail
  rw [HE1.out]
  refine (zfirst_any a p g r (1 - side) L s w3 hSW.out (by omega)).mono ?_
  rintro e w4 ⟨rfl, rfl⟩
  rw [← HF1.out]
  go_wp2_with fail
  refine (zempty_any a p g r f1 r L s w4 hSW.out (by omega) HZ1.out).mono ?_
  rintro e w5 ⟨rfl, hb5⟩
  have HS5 := Lib.hid (hSW.out.below hb5 (Nat.le_refl _))
  have HB5 := Lib.hid (HB2.out.trans (hb5.mono HB2.out.size))
  have q2 := (hb5.cell (p := ⟨w2.heap.size, 0, none⟩) (cell_lt g2)).trans g2
  clear g2 g3 g4 hb5
  go_wp2_with fail
  refine (zfirst_any a p g r side L s w5 HS5.out (by omega)).mono ?_
  rintro e w6 ⟨rfl, rfl⟩
  rw [← HF2.out]
  go_wp2_with fail
  rw [HE2.out, HE3.out]
  refine (zempty_any a p g r (f2 + t) (r - t) L s w6 HS5.out (by omega) HZ2.out).mono ?_
  rintro e w7 ⟨rfl, hb7⟩
  have HB7 := Lib.hid (HB5.out.trans (hb7.mono HB5.out.size))
  clear hb7 q2
  go_wp2
  go_ret
  exact ⟨rfl, HB7.out⟩
theorem ij_set {side r i : Nat} : (1 + side * r + i / 32) * 32 + i % 32 = 32 * (1 + side * r) + i := by omega
set_option maxRecDepth 100000 in
set_option maxHeartbeats 1000000 in
theorem zturn_no (a p g r side : Nat) (L K : List Nat) (s : Pw) (x : Int) (y : Nat) (w : World) (h : Sz w a p g r L s) (hd : Sd r L side K) (hx : ¬ (0 ≤ x ∧ x < (K.length : Int))) :
    Calls Try.prog 15 #[.pointer (some ⟨a, 0, none⟩), .int .i64 x, .int .u8 (y : Int)] w fun e w' => e = .returned (.bool false) ∧ Below w.heap.size w w' := by
  obtain ⟨m, hm⟩ : ∃ m, m = K.length := ⟨_, rfl⟩
  have HR := Lib.hid (zroot_any a p g r side L K s w h hd)
  rw [← hm] at HR hx
  clear h hd hm
  by_cases h0 : x < 0
  · clear hx
    go_enter Try.func15, Try.ntmps15
    go_wp2_with fail
    refine HR.out.mono ?_
    rintro e w1 ⟨rfl, hb1⟩
    have HB1 := Lib.hid (hb1.trans ((rootbox w1 (.int .i64 (side : Int)) (.int .i64 (m : Int))).1.mono hb1.size))
    clear hb1 HR
    go_wp2
    go_ret
    exact ⟨rfl, HB1.out⟩
  · have h1 : (m : Int) ≤ x := by omega
    clear hx
    go_enter Try.func15, Try.ntmps15
    go_wp2_with fail
    refine HR.out.mono ?_
    rintro e w1 ⟨rfl, hb1⟩
    have HB1 := Lib.hid (hb1.trans ((rootbox w1 (.int .i64 (side : Int)) (.int .i64 (m : Int))).1.mono hb1.size))
    clear hb1 HR
    go_wp2
    go_ret
    exact ⟨rfl, HB1.out⟩
theorem zfirst_f (a p g r side f : Nat) (L : List Nat) (s : Pw) (w : World) (hf : f = 1 + side * r) (h : Sz w a p g r L s) (h2 : side ≤ 1) : Calls Try.prog 34 #[.pointer (some ⟨a, 0, none⟩), .int .i64 (side : Int)] w fun e w' => e = .returned (.int .i64 (f : Int)) ∧ w' = w := by
  rw [hf]; exact zfirst_any a p g r side L s w h h2
set_option maxRecDepth 100000 in
set_option maxHeartbeats 1000000 in
theorem zturn_yes (a p g r side i y : Nat) (L K : List Nat) (s : Pw) (w : World) (h : Sz w a p g r L s) (hd : Sd r L side K) (hi : i < K.length) (hy : y < 256) :
    Calls Try.prog 15 #[.pointer (some ⟨a, 0, none⟩), .int .i64 (i : Int), .int .u8 (y : Int)] w fun e w' => e = .returned (.bool true) ∧ Sz w' a p g r (L.set (32 * (1 + side * r) + i) (co L (32 * (1 + side * r) + i) ^^^ y)) s ∧ K3 w w' a p g := by
  obtain ⟨m, hm⟩ : ∃ m, m = K.length := ⟨_, rfl⟩
  have HR := Lib.hid (zroot_any a p g r side L K s w h hd)
  rw [← hm] at HR hi
  have h2 := hd.two
  have hfew := hd.few
  have hs2 : side * r ≤ r := by rcases (by omega : side = 0 ∨ side = 1) with e | e <;> rw [e] <;> omega
  have hmr : m ≤ 32 * r := by rw [hm]; exact hd.fit
  have HS := Lib.hid h
  obtain ⟨f, hf⟩ : ∃ f, f = 1 + side * r := ⟨_, rfl⟩
  have hfr : f ≤ 1 + r := by omega
  have HF := Lib.hid hf
  rw [← hf]
  clear h hd hm hf
  have n0 : ¬ (i : Int) < 0 := by omega
  have n1 : ¬ (m : Int) ≤ (i : Int) := by omega
  have n2 : (i : Int) < (m : Int) := by omega
  obtain ⟨q, hq⟩ : ∃ q, q = i / 32 := ⟨_, rfl⟩
  obtain ⟨t, ht⟩ : ∃ t, t = i % 32 := ⟨_, rfl⟩
  have e1 : (i : Int) / 32 = (q : Int) := by omega
  have e2 : (i : Int) % 32 = (t : Int) := by omega
  have ht32 : t < 32 := by omega
  obtain ⟨k, hk⟩ : ∃ k, k = f + q := ⟨_, rfl⟩
  have e3 : IntKind.i64.wrap (q : Int) = (q : Int) := by rw [IntKind.wrap_i64]; omega
  have e4 : IntKind.i64.wrap ((f : Int) + (q : Int)) = (k : Int) := by rw [IntKind.wrap_i64]; omega
  have e5 : (i : Int).tmod 32 = (t : Int) := by rw [Int.tmod_eq_emod_of_nonneg (by omega)]; omega
  have HK := Lib.hid hk
  have hit : i = 32 * q + t := by omega
  have HIT := Lib.hid hit
  have hqr : q < r := by omega
  clear hq ht hit hk
  go_enter Try.func15, Try.ntmps15
  go_wp2_with fail
  refine HR.out.mono ?_
  rintro e w1 ⟨rfl, hb1⟩
  have h1 := HS.out.below hb1 (Nat.le_refl _)
  obtain ⟨g1, g2, g3, g4⟩ := rootbox w1 (.int .i64 (side : Int)) (.int .i64 (m : Int))
  have HSW := Lib.hid (h1.below g1 (Nat.le_refl _))
  have HB1 := Lib.hid (hb1.trans (g1.mono hb1.size))
  clear hb1 h1 HR g4 g1
  go_wp2
  obtain ⟨V, hV⟩ : ∃ V, V = w1.alloc (.cells #[.int .i64 (side : Int), .int .i64 (m : Int)] 54) := ⟨_, rfl⟩
  rw [← hV] at HSW HB1 g2 g3 ⊢
  have c0 := HSW.out.cell
  clear hV
  go_still_tail 14, (by kernel_rfl)
  still_call (zfirst_f a p g r side f L s _ HF.out (HSW.out.drewN 1) h2)
  repeat still_step
  refine wpStill_nil ?_
  change wpList _ _ _ _ _ V.drew
  obtain ⟨W, hW⟩ : ∃ W, W = V.drew := ⟨_, rfl⟩
  rw [← hW]
  have hSW : Sz W a p g r L s := by rw [hW]; exact HSW.out.drewN 1
  have hBW : Below w.heap.size w W := by rw [hW]; exact Gw.Below.drewN HB1.out 1
  have HSX := Lib.hid hSW
  have HBX := Lib.hid hBW
  clear c0 g2 g3 hW hSW hBW
  go_wp2_with fail
  refine (dz_turn p g (1 + 2 * r) L s k t y W HSX.out.dz (by have := HK.out; omega) ht32 hy).mono ?_
  rintro e w5 ⟨rfl, hd5, hk5⟩
  have HD5 := Lib.hid (HSX.out.turned hk5 hd5)
  have HK5 := Lib.hid ((K3.ofBelow (a := a) (p := p) (g := g) HBX.out (Nat.le_refl _)).sm (K3.of2 hk5))
  rw [show k * 32 + t = 32 * f + i by have := HIT.out; have := HK.out; omega] at HD5
  clear hd5 hk5
  go_wp2
  go_ret
  exact ⟨rfl, HD5.out, HK5.out⟩
set_option maxRecDepth 100000 in
set_option maxHeartbeats 1000000 in
theorem zsave_big (a p g r : Nat) (L : List Nat) (s : Pw) (A : Option Addr) (m c : Nat) (w : World) (h : Sz w a p g r L s) (ht : r < tk m) (_hm : m < 140737488355328) :
    Calls Try.prog 12 #[.pointer (some ⟨a, 0, none⟩), .slice A m c] w fun e w' => e = .returned (.int .i64 7) ∧ Below w.heap.size w w' := by
  have HR := Lib.hid (zroom_any a p g r L s w h)
  have hr := h.few
  have hm : (r : Int) * 32 < (m : Int) := by unfold tk at ht; omega
  clear h ht _hm
  go_enter Try.func12, Try.ntmps12
  go_wp2_with fail
  refine HR.out.mono ?_
  rintro e w1 ⟨rfl, rfl⟩
  go_wp2
  go_ret
  exact ⟨rfl, Below.refl _ _⟩
end Go.Proofs.Ytijbpafmokbnaaa
