/- What sha's Sum does: SHA-256. -/
import Derived.Test.YtfemcofjhcanhaaDoorShf
namespace Go.Proofs.YtfemcofjhcanhaaDoor
open Go.RowKit Go.Shelf Gw Pol Sh
theorem mixBlocks' (s : St) (hs : s.Ok) (A : Option Addr) (c n : Nat) (l : List Nat) (w : World) (hn : n = l.length) (hI : In w w.heap.size A c l) (hl : l.length % 64 = 0) (hcm : l.length ≤ 140737488355328) (hK : KT w) :
    Calls Tryd.prog 17 #[.agg (u32v s.l), .slice A n c] w fun e w' => e = .returned (.agg (u32v (blks (co l) s (l.length / 64)).l)) ∧ Below w.heap.size w w' := by
  subst hn; exact mixBlocks_any s hs A c l w hI hl hcm hK
theorem ending' (A : Option Addr) (c m : Nat) (r : List Nat) (n : Nat) (w : World) (hm : m = r.length) (hI : In w w.heap.size A c r) (hr : r.length < 64) (hn : n ≤ 140737488355328) :
    Calls Tryd.prog 18 #[.slice A m c, .int .u64 (n : Int)] w fun e w' => ∃ A2 c2, e = .returned (.slice A2 (en r n).length c2) ∧ Gw.Own w' w.heap.size 5 A2 c2 (en r n) ∧ Below w.heap.size w w' := by
  subst hm; exact ending_any A c r n w hI hr hn
set_option maxRecDepth 100000 in
set_option maxHeartbeats 4000000 in
theorem sum_some (b off c : Nat) (l : List Nat) (w : World) (hI : In w w.heap.size (some ⟨b, off, none⟩) c l) (hcm : l.length ≤ 140737488355328) (hK : KT w) :
    Calls Tryd.prog 16 #[.slice (some ⟨b, off, none⟩) l.length c] w fun e w' => ∃ A2 c2, e = .returned (.slice A2 32 c2) ∧ Gw.Own w' w.heap.size 5 A2 c2 (sum l) ∧ Below w.heap.size w w' := by
  have hcap := hI.cap
  obtain ⟨N, hN⟩ : ∃ N, N = l.length := ⟨_, rfl⟩
  obtain ⟨R, hR⟩ : ∃ R, R = N % 64 := ⟨_, rfl⟩
  obtain ⟨V, hV⟩ : ∃ V, V = N - R := ⟨_, rfl⟩
  have HF := Lib.hid (fin_parts l)
  rw [← hN, ← hR, ← hV] at HF
  rw [← hN] at hcm hcap ⊢
  have eR : ((N : Int)).tmod 64 = (R : Int) := by rw [Int.tmod_eq_emod_of_nonneg (by omega)]; omega
  have eV : (N : Int) - (R : Int) = (V : Int) := by omega
  have hVc : V ≤ c := by omega
  have hVN : V ≤ N := by omega
  have hIt : In w w.heap.size (some ⟨b, off, none⟩) c (l.take V) := ⟨hI.sl.take V, by rw [List.length_take]; omega, hI.none_⟩
  have HTL := Lib.hid (show V = (l.take V).length by rw [List.length_take]; omega)
  have HDL := Lib.hid (show R = (l.drop V).length by rw [List.length_drop]; omega)
  have HVM := Lib.hid (show V % 64 = 0 by omega)
  have HVD := Lib.hid (show V / 64 = N / 64 by omega)
  have HR64 := Lib.hid (show R < 64 by omega)
  have hNV : N - V = R := by omega
  obtain ⟨A', hA', hId⟩ : ∃ A', (if c = V then some (⟨b, off, none⟩ : Addr) else some ⟨b, off + V, none⟩) = A' ∧ In w w.heap.size A' (c - V) (l.drop V) := by
    refine ⟨_, rfl, ?_⟩
    by_cases hcV : c = V
    · rw [if_pos hcV, List.drop_eq_nil_of_le (by omega)]
      exact ⟨Sl.nil, by simp, fun h => by cases h⟩
    · rw [if_neg hcV]
      exact ⟨hI.sl.drop V, by rw [List.length_drop]; omega, fun h => by cases h⟩
  have HIT := Lib.hid hIt
  have HID := Lib.hid hId
  have hVi : (V : Int) ≤ (c : Int) := by omega
  have hVn : (V : Int) ≤ (N : Int) := by omega
  obtain ⟨S0, hS0⟩ : ∃ S, S = ini := ⟨_, rfl⟩
  have hok0 : S0.Ok := by rw [hS0]; exact ini_ok
  rw [← hS0] at HF
  obtain ⟨w1, hw1⟩ : ∃ w1, w1 = w.alloc (.cells (u32v ini.l) 36) := ⟨_, rfl⟩
  have hrow1 : Wa w1 w.heap.size 36 S0.l := by rw [hw1, hS0]; exact Wa.new w _ _
  have hb1 : Below w.heap.size w w1 := by rw [hw1]; exact (Below.refl _ w).alloc (Nat.le_refl _) _
  have HN := Lib.hid hN
  have HR := Lib.hid hR
  have HV := Lib.hid hV
  have HW1 := Lib.hid hw1
  clear hN hR hV hIt hId hI hw1 hS0
  go_enter Tryd.func16, Tryd.ntmps16
  go_wp2
  change Code.wp _ _ _ _ (w.alloc (.cells (u32v ini.l) 36))
  rw [← HW1.out]
  clear HW1
  obtain ⟨a0, a1, a2, a3, a4, a5, a6, a7⟩ := S0
  have HROW1 := Lib.hid hrow1
  obtain ⟨c0, c1, c2, c3, c4, c5, c6, c7, z0, z1, z2, z3, z4, z5, z6, z7⟩ := wa_c8 hrow1
  have HOK0 := Lib.hid hok0
  have HK1 := Lib.hid (hK.to hb1)
  obtain ⟨S1, hS1⟩ : ∃ S, S = blks (co (l.take V)) ⟨a0, a1, a2, a3, a4, a5, a6, a7⟩ (N / 64) := ⟨_, rfl⟩
  have HOK1 := Lib.hid (show S1.Ok by rw [hS1]; exact blks_ok _ hok0 _)
  rw [← hS1] at HF
  rw [← HVD.out, ] at hS1
  have HS1 := Lib.hid (show blks (co (l.take V)) ⟨a0, a1, a2, a3, a4, a5, a6, a7⟩ ((l.take V).length / 64) = S1 by rw [← HTL.out, hS1])
  clear hS1 hrow1 hok0
  obtain ⟨b0, b1, b2, b3, b4, b5, b6, b7⟩ := S1
  have hs1 := hb1.size
  go_region_law (first
    | (refine step_call rfl 17 _ _ rfl #[.agg #[.int .u32 (a0 : Int), .int .u32 (a1 : Int), .int .u32 (a2 : Int), .int .u32 (a3 : Int), .int .u32 (a4 : Int), .int .u32 (a5 : Int), .int .u32 (a6 : Int), .int .u32 (a7 : Int)], .slice (some ⟨b, off, none⟩) V c] (by kernel_rfl) (by first | rfl | (simp [Act.eval]; done) | (simp [Act.eval, Act.put]; done)) (mixBlocks' ⟨a0, a1, a2, a3, a4, a5, a6, a7⟩ HOK0.out (some ⟨b, off, none⟩) c V (l.take V) _ HTL.out (((HIT.out.below hb1).more hs1).drewN 1) (by rw [← HTL.out]; exact HVM.out) (by rw [← HTL.out]; omega) (HK1.out.drewN 1)) ?_
       rintro e w2 ⟨rfl, hB2⟩
       have hB2' : Below w1.heap.size w1 w2 := drewN_below (n := 1) hB2
       obtain ⟨e0, e1, e2, e3, e4, e5, e6, e7, x0, x1, x2, x3, x4, x5, x6, x7⟩ := wa_c8 (HROW1.out.below hB2' HROW1.out.lt)
       refine ⟨.agg #[.int .u32 (b0 : Int), .int .u32 (b1 : Int), .int .u32 (b2 : Int), .int .u32 (b3 : Int), .int .u32 (b4 : Int), .int .u32 (b5 : Int), .int .u32 (b6 : Int), .int .u32 (b7 : Int)], (by rw [HS1.out]; rfl), ?_⟩))
  have hrow3 : Wa (turn8 w2 w.heap.size b0 b1 b2 b3 b4 b5 b6 b7) w.heap.size 36 [b0, b1, b2, b3, b4, b5, b6, b7] := wa_turn8 (HROW1.out.below hB2' HROW1.out.lt)
  have hb3 : Below w.heap.size w (turn8 w2 w.heap.size b0 b1 b2 b3 b4 b5 b6 b7) := below_turn8 (hb1.trans (hB2'.mono hs1)) (Nat.le_refl _) _ _ _ _ _ _ _ _
  change Exit.then _ _ _ _ (turn8 w2 w.heap.size b0 b1 b2 b3 b4 b5 b6 b7)
  obtain ⟨w3, hw3⟩ : ∃ w3, w3 = turn8 w2 w.heap.size b0 b1 b2 b3 b4 b5 b6 b7 := ⟨_, rfl⟩
  rw [← hw3] at hrow3 hb3 ⊢
  clear hw3 hB2' hB2 c0 c1 c2 c3 c4 c5 c6 c7 z0 z1 z2 z3 z4 z5 z6 z7 e0 e1 e2 e3 e4 e5 e6 e7 x0 x1 x2 x3 x4 x5 x6 x7 HROW1 HK1 hb1 HOK0 HS1 hs1
  have HROW3 := Lib.hid hrow3
  obtain ⟨c0, c1, c2, c3, c4, c5, c6, c7, z0, z1, z2, z3, z4, z5, z6, z7⟩ := wa_c8 hrow3
  have HK3 := Lib.hid (hK.to hb3)
  have hs3 := hb3.size
  have hwN : IntKind.u64.wrap (N : Int) = (N : Int) := by rw [IntKind.wrap_u64]; omega
  have HEM := Lib.hid (en_mod (l.drop V) N)
  have HEB := Lib.hid (show (en (l.drop V) N).length ≤ 140737488355328 by rw [en_len]; have := HDL.out; have := HR64.out; unfold zn; omega)
  obtain ⟨S2, hS2⟩ : ∃ S, S = fin l := ⟨_, rfl⟩
  have HSUM := Lib.hid (show sum l = outs S2.l 8 by rw [sum, hS2])
  rw [← hS2] at HF
  have HOK2 := Lib.hid (show S2.Ok by rw [HF.out]; exact blks_ok _ HOK1.out _)
  clear hS2 hrow3
  obtain ⟨f0, f1, f2, f3, f4, f5, f6, f7⟩ := S2
  go_wp2
  go_region_law (first
    | (refine step_call rfl 18 _ _ rfl #[.slice A' R (c - V), .int .u64 (N : Int)] (by kernel_rfl) (by first | rfl | (simp [Act.eval]; done) | (simp [Act.eval, Act.put]; done)) (ending' A' (c - V) R (l.drop V) N _ HDL.out (((HID.out.below hb3).more hs3).drewN 1) (by rw [← HDL.out]; exact HR64.out) hcm) ?_
       rintro e w4 ⟨A9, c9, rfl, hown4, hB4⟩
       have hB4' : Below w3.heap.size w3 w4 := drewN_below (n := 1) hB4
       obtain ⟨d0, d1, d2, d3, d4, d5, d6, d7, y0, y1, y2, y3, y4, y5, y6, y7⟩ := wa_c8 (HROW3.out.below hB4' HROW3.out.lt)
       refine ⟨_, rfl, ?_⟩)
    | (refine step_call rfl 17 _ _ rfl #[.agg #[.int .u32 (b0 : Int), .int .u32 (b1 : Int), .int .u32 (b2 : Int), .int .u32 (b3 : Int), .int .u32 (b4 : Int), .int .u32 (b5 : Int), .int .u32 (b6 : Int), .int .u32 (b7 : Int)], .slice A9 (en (l.drop V) N).length c9] (by kernel_rfl) (by first | rfl | (simp [Act.eval]; done) | (simp [Act.eval, Act.put]; done)) (mixBlocks_any ⟨b0, b1, b2, b3, b4, b5, b6, b7⟩ HOK1.out A9 c9 (en (l.drop V) N) _ hown4.inn HEM.out HEB.out (HK3.out.to hB4')) ?_
       rintro e w5 ⟨rfl, hB5⟩
       have hB5' : Below w3.heap.size w3 w5 := hB4'.trans (hB5.mono hB4'.size)
       obtain ⟨e0, e1, e2, e3, e4, e5, e6, e7, x0, x1, x2, x3, x4, x5, x6, x7⟩ := wa_c8 (HROW3.out.below hB5' HROW3.out.lt)
       refine ⟨.agg #[.int .u32 (f0 : Int), .int .u32 (f1 : Int), .int .u32 (f2 : Int), .int .u32 (f3 : Int), .int .u32 (f4 : Int), .int .u32 (f5 : Int), .int .u32 (f6 : Int), .int .u32 (f7 : Int)], (by rw [← HF.out]; rfl), ?_⟩))
  all_goals (
    have hrow6 : Wa (turn8 w5 w.heap.size f0 f1 f2 f3 f4 f5 f6 f7) w.heap.size 36 [f0, f1, f2, f3, f4, f5, f6, f7] := wa_turn8 (HROW3.out.below hB5' HROW3.out.lt)
    have hb6 : Below w.heap.size w (turn8 w5 w.heap.size f0 f1 f2 f3 f4 f5 f6 f7) := below_turn8 (hb3.trans (hB5'.mono hs3)) (Nat.le_refl _) _ _ _ _ _ _ _ _
    change Exit.then _ _ _ _ (turn8 w5 w.heap.size f0 f1 f2 f3 f4 f5 f6 f7)
    obtain ⟨w6, hw6⟩ : ∃ w6, w6 = turn8 w5 w.heap.size f0 f1 f2 f3 f4 f5 f6 f7 := ⟨_, rfl⟩
    rw [← hw6] at hrow6 hb6 ⊢
    clear hw6 hB5' hB5 hB4' hB4 hown4 c0 c1 c2 c3 c4 c5 c6 c7 z0 z1 z2 z3 z4 z5 z6 z7 d0 d1 d2 d3 d4 d5 d6 d7 y0 y1 y2 y3 y4 y5 y6 y7 e0 e1 e2 e3 e4 e5 e6 e7 x0 x1 x2 x3 x4 x5 x6 x7 hA'
    obtain ⟨c0, c1, c2, c3, c4, c5, c6, c7, z0, z1, z2, z3, z4, z5, z6, z7⟩ := wa_c8 hrow6
    clear hrow6
    go_wp2_with fail
    refine (wordBytes_any ⟨f0, f1, f2, f3, f4, f5, f6, f7⟩ HOK2.out _).mono ?_
    rintro e w7 ⟨A3, c3, rfl, hown7, hB7⟩
    go_wp2
    go_ret
    exact ⟨A3, c3, rfl, by rw [HSUM.out]; exact hown7.base hb6.size, hb6.trans (hB7.mono hb6.size)⟩)
set_option maxRecDepth 100000 in
set_option maxHeartbeats 4000000 in
theorem sum_empty (A : Option Addr) (c : Nat) (w : World) (hA0 : A = none → c = 0) (hK : KT w) :
    Calls Tryd.prog 16 #[.slice A 0 c] w fun e w' => ∃ A2 c2, e = .returned (.slice A2 32 c2) ∧ Gw.Own w' w.heap.size 5 A2 c2 (sum []) ∧ Below w.heap.size w w' := by
  have HF := Lib.hid (show fin [] = blks (co (en [] 0)) (blks (co []) ini 0) ((en [] 0).length / 64) from fin_parts [])
  have HIN := Lib.hid (show ∀ w : World, In w w.heap.size A c [] from fun w => ⟨Sl.nil, Nat.zero_le _, hA0⟩)
  clear hA0
  obtain ⟨S0, hS0⟩ : ∃ S, S = ini := ⟨_, rfl⟩
  have hok0 : S0.Ok := by rw [hS0]; exact ini_ok
  rw [← hS0] at HF
  obtain ⟨w1, hw1⟩ : ∃ w1, w1 = w.alloc (.cells (u32v ini.l) 36) := ⟨_, rfl⟩
  have hrow1 : Wa w1 w.heap.size 36 S0.l := by rw [hw1, hS0]; exact Wa.new w _ _
  have hb1 : Below w.heap.size w w1 := by rw [hw1]; exact (Below.refl _ w).alloc (Nat.le_refl _) _
  have HW1 := Lib.hid hw1
  clear hw1 hS0
  go_enter Tryd.func16, Tryd.ntmps16
  go_wp2
  change Code.wp _ _ _ _ (w.alloc (.cells (u32v ini.l) 36))
  rw [← HW1.out]
  clear HW1
  obtain ⟨a0, a1, a2, a3, a4, a5, a6, a7⟩ := S0
  have HROW1 := Lib.hid hrow1
  obtain ⟨c0, c1, c2, c3, c4, c5, c6, c7, z0, z1, z2, z3, z4, z5, z6, z7⟩ := wa_c8 hrow1
  have HOK0 := Lib.hid hok0
  have HK1 := Lib.hid (hK.to hb1)
  obtain ⟨S1, hS1⟩ : ∃ S, S = blks (co []) ⟨a0, a1, a2, a3, a4, a5, a6, a7⟩ 0 := ⟨_, rfl⟩
  have HOK1 := Lib.hid (show S1.Ok by rw [hS1]; exact blks_ok _ hok0 _)
  rw [← hS1] at HF
  have HS1 := Lib.hid (show blks (co []) ⟨a0, a1, a2, a3, a4, a5, a6, a7⟩ (([] : List Nat).length / 64) = S1 by rw [hS1]; rfl)
  clear hS1 hrow1 hok0
  obtain ⟨b0, b1, b2, b3, b4, b5, b6, b7⟩ := S1
  have hs1 := hb1.size
  go_region_law (first
    | (refine step_call rfl 17 _ _ rfl #[.agg #[.int .u32 (a0 : Int), .int .u32 (a1 : Int), .int .u32 (a2 : Int), .int .u32 (a3 : Int), .int .u32 (a4 : Int), .int .u32 (a5 : Int), .int .u32 (a6 : Int), .int .u32 (a7 : Int)], .slice A 0 c] (by kernel_rfl) (by first | rfl | (simp [Act.eval]; done) | (simp [Act.eval, Act.put]; done)) (mixBlocks' ⟨a0, a1, a2, a3, a4, a5, a6, a7⟩ HOK0.out A c 0 [] _ rfl (HIN.out _) rfl (Nat.zero_le _) (HK1.out.drewN 1)) ?_
       rintro e w2 ⟨rfl, hB2⟩
       have hB2' : Below w1.heap.size w1 w2 := drewN_below (n := 1) hB2
       obtain ⟨e0, e1, e2, e3, e4, e5, e6, e7, x0, x1, x2, x3, x4, x5, x6, x7⟩ := wa_c8 (HROW1.out.below hB2' HROW1.out.lt)
       refine ⟨.agg #[.int .u32 (b0 : Int), .int .u32 (b1 : Int), .int .u32 (b2 : Int), .int .u32 (b3 : Int), .int .u32 (b4 : Int), .int .u32 (b5 : Int), .int .u32 (b6 : Int), .int .u32 (b7 : Int)], (by rw [HS1.out]; rfl), ?_⟩))
  have hrow3 : Wa (turn8 w2 w.heap.size b0 b1 b2 b3 b4 b5 b6 b7) w.heap.size 36 [b0, b1, b2, b3, b4, b5, b6, b7] := wa_turn8 (HROW1.out.below hB2' HROW1.out.lt)
  have hb3 : Below w.heap.size w (turn8 w2 w.heap.size b0 b1 b2 b3 b4 b5 b6 b7) := below_turn8 (hb1.trans (hB2'.mono hs1)) (Nat.le_refl _) _ _ _ _ _ _ _ _
  change Exit.then _ _ _ _ (turn8 w2 w.heap.size b0 b1 b2 b3 b4 b5 b6 b7)
  obtain ⟨w3, hw3⟩ : ∃ w3, w3 = turn8 w2 w.heap.size b0 b1 b2 b3 b4 b5 b6 b7 := ⟨_, rfl⟩
  rw [← hw3] at hrow3 hb3 ⊢
  clear hw3 hB2' hB2 c0 c1 c2 c3 c4 c5 c6 c7 z0 z1 z2 z3 z4 z5 z6 z7 e0 e1 e2 e3 e4 e5 e6 e7 x0 x1 x2 x3 x4 x5 x6 x7 HROW1 HK1 hb1 HOK0 HS1 hs1
  have HROW3 := Lib.hid hrow3
  obtain ⟨c0, c1, c2, c3, c4, c5, c6, c7, z0, z1, z2, z3, z4, z5, z6, z7⟩ := wa_c8 hrow3
  have HK3 := Lib.hid (hK.to hb3)
  have hw0 : IntKind.u64.wrap 0 = 0 := rfl
  have hs3 := hb3.size
  have HEM := Lib.hid (en_mod [] 0)
  have HEB := Lib.hid (show (en [] 0).length ≤ 140737488355328 by rw [en_len]; decide)
  obtain ⟨S2, hS2⟩ : ∃ S, S = fin [] := ⟨_, rfl⟩
  have HSUM := Lib.hid (show sum [] = outs S2.l 8 by rw [sum, hS2])
  rw [← hS2] at HF
  have HOK2 := Lib.hid (show S2.Ok by rw [HF.out]; exact blks_ok _ HOK1.out _)
  clear hS2 hrow3
  obtain ⟨f0, f1, f2, f3, f4, f5, f6, f7⟩ := S2
  go_wp2
  go_region_law (first
    | (refine step_call rfl 18 _ _ rfl #[.slice A 0 c, .int .u64 0] (by kernel_rfl) (by first | rfl | (simp [Act.eval]; done) | (simp [Act.eval, Act.put]; done)) (ending' A c 0 [] 0 _ rfl (HIN.out _) (by show 0 < 64; omega) (Nat.zero_le _)) ?_
       rintro e w4 ⟨A9, c9, rfl, hown4, hB4⟩
       have hB4' : Below w3.heap.size w3 w4 := drewN_below (n := 1) hB4
       obtain ⟨d0, d1, d2, d3, d4, d5, d6, d7, y0, y1, y2, y3, y4, y5, y6, y7⟩ := wa_c8 (HROW3.out.below hB4' HROW3.out.lt)
       refine ⟨_, rfl, ?_⟩)
    | (refine step_call rfl 17 _ _ rfl #[.agg #[.int .u32 (b0 : Int), .int .u32 (b1 : Int), .int .u32 (b2 : Int), .int .u32 (b3 : Int), .int .u32 (b4 : Int), .int .u32 (b5 : Int), .int .u32 (b6 : Int), .int .u32 (b7 : Int)], .slice A9 (en [] 0).length c9] (by kernel_rfl) (by first | rfl | (simp [Act.eval]; done) | (simp [Act.eval, Act.put]; done)) (mixBlocks_any ⟨b0, b1, b2, b3, b4, b5, b6, b7⟩ HOK1.out A9 c9 (en [] 0) _ hown4.inn HEM.out HEB.out (HK3.out.to hB4')) ?_
       rintro e w5 ⟨rfl, hB5⟩
       have hB5' : Below w3.heap.size w3 w5 := hB4'.trans (hB5.mono hB4'.size)
       obtain ⟨e0, e1, e2, e3, e4, e5, e6, e7, x0, x1, x2, x3, x4, x5, x6, x7⟩ := wa_c8 (HROW3.out.below hB5' HROW3.out.lt)
       refine ⟨.agg #[.int .u32 (f0 : Int), .int .u32 (f1 : Int), .int .u32 (f2 : Int), .int .u32 (f3 : Int), .int .u32 (f4 : Int), .int .u32 (f5 : Int), .int .u32 (f6 : Int), .int .u32 (f7 : Int)], (by rw [← HF.out]; rfl), ?_⟩))
  all_goals (
    have hrow6 : Wa (turn8 w5 w.heap.size f0 f1 f2 f3 f4 f5 f6 f7) w.heap.size 36 [f0, f1, f2, f3, f4, f5, f6, f7] := wa_turn8 (HROW3.out.below hB5' HROW3.out.lt)
    have hb6 : Below w.heap.size w (turn8 w5 w.heap.size f0 f1 f2 f3 f4 f5 f6 f7) := below_turn8 (hb3.trans (hB5'.mono hs3)) (Nat.le_refl _) _ _ _ _ _ _ _ _
    change Exit.then _ _ _ _ (turn8 w5 w.heap.size f0 f1 f2 f3 f4 f5 f6 f7)
    obtain ⟨w6, hw6⟩ : ∃ w6, w6 = turn8 w5 w.heap.size f0 f1 f2 f3 f4 f5 f6 f7 := ⟨_, rfl⟩
    rw [← hw6] at hrow6 hb6 ⊢
    clear hw6 hB5' hB5 hB4' hB4 hown4 c0 c1 c2 c3 c4 c5 c6 c7 z0 z1 z2 z3 z4 z5 z6 z7 d0 d1 d2 d3 d4 d5 d6 d7 y0 y1 y2 y3 y4 y5 y6 y7 e0 e1 e2 e3 e4 e5 e6 e7 x0 x1 x2 x3 x4 x5 x6 x7
    obtain ⟨c0, c1, c2, c3, c4, c5, c6, c7, z0, z1, z2, z3, z4, z5, z6, z7⟩ := wa_c8 hrow6
    clear hrow6
    go_wp2_with fail
    refine (wordBytes_any ⟨f0, f1, f2, f3, f4, f5, f6, f7⟩ HOK2.out _).mono ?_
    rintro e w7 ⟨A3, c3, rfl, hown7, hB7⟩
    go_wp2
    go_ret
    exact ⟨A3, c3, rfl, by rw [HSUM.out]; exact hown7.base hb6.size, hb6.trans (hB7.mono hb6.size)⟩)
theorem sum_any (A : Option Addr) (c n : Nat) (l : List Nat) (w : World) (hn : n = l.length) (hI : In w w.heap.size A c l) (hcm : l.length ≤ 140737488355328) (hK : KT w) :
    Calls Tryd.prog 16 #[.slice A n c] w fun e w' => ∃ A2 c2, e = .returned (.slice A2 32 c2) ∧ Gw.Own w' w.heap.size 5 A2 c2 (sum l) ∧ Below w.heap.size w w' := by
  subst hn
  by_cases h0 : l = []
  · subst h0
    exact sum_empty A c w hI.none_ hK
  · obtain ⟨_, b, off, _, _, rfl, _, _⟩ := hI.sl.at_ (k := 0) (by cases l with | nil => exact absurd rfl h0 | cons y l => simp)
    exact sum_some b off c l w hI hcm hK
end Go.Proofs.YtfemcofjhcanhaaDoor
