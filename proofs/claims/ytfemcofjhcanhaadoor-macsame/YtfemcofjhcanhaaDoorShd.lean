/- What sha's mixBlocks, ending and wordBytes do. -/
import Derived.Test.YtfemcofjhcanhaaDoorShc
import Derived.Test.YtfemcofjhcanhaaDoorStc
namespace Go.Proofs.YtfemcofjhcanhaaDoor
open Go.RowKit Go.Shelf Gw Pol Sh

/-- Eight words' cells. -/
structure C8 (w : World) (g a b c d e f g' h : Nat) : Prop where
  c0 : w.cell? ⟨g, 0, none⟩ = some (.int .u32 (a : Int))
  c1 : w.cell? ⟨g, 1, none⟩ = some (.int .u32 (b : Int))
  c2 : w.cell? ⟨g, 2, none⟩ = some (.int .u32 (c : Int))
  c3 : w.cell? ⟨g, 3, none⟩ = some (.int .u32 (d : Int))
  c4 : w.cell? ⟨g, 4, none⟩ = some (.int .u32 (e : Int))
  c5 : w.cell? ⟨g, 5, none⟩ = some (.int .u32 (f : Int))
  c6 : w.cell? ⟨g, 6, none⟩ = some (.int .u32 (g' : Int))
  c7 : w.cell? ⟨g, 7, none⟩ = some (.int .u32 (h : Int))
  z0 : w.frozen? ⟨g, 0, none⟩ = false
  z1 : w.frozen? ⟨g, 1, none⟩ = false
  z2 : w.frozen? ⟨g, 2, none⟩ = false
  z3 : w.frozen? ⟨g, 3, none⟩ = false
  z4 : w.frozen? ⟨g, 4, none⟩ = false
  z5 : w.frozen? ⟨g, 5, none⟩ = false
  z6 : w.frozen? ⟨g, 6, none⟩ = false
  z7 : w.frozen? ⟨g, 7, none⟩ = false
theorem wa_c8 {w : World} {g : Nat} {t : TypeId} {a b c d e f g' h : Nat} (H : Wa w g t [a, b, c, d, e, f, g', h]) : C8 w g a b c d e f g' h :=
  ⟨H.cell (k := 0) (by show 0 < 8; omega), H.cell (k := 1) (by show 1 < 8; omega), H.cell (k := 2) (by show 2 < 8; omega), H.cell (k := 3) (by show 3 < 8; omega), H.cell (k := 4) (by show 4 < 8; omega), H.cell (k := 5) (by show 5 < 8; omega), H.cell (k := 6) (by show 6 < 8; omega), H.cell (k := 7) (by show 7 < 8; omega), H.frozen 0, H.frozen 1, H.frozen 2, H.frozen 3, H.frozen 4, H.frozen 5, H.frozen 6, H.frozen 7⟩
/-- Eight words are turned. -/
def turn8 (w : World) (g a b c d e f g' h : Nat) : World := (((((((w.setCell ⟨g, 0, none⟩ (.int .u32 (a : Int))).setCell ⟨g, 1, none⟩ (.int .u32 (b : Int))).setCell ⟨g, 2, none⟩ (.int .u32 (c : Int))).setCell ⟨g, 3, none⟩ (.int .u32 (d : Int))).setCell ⟨g, 4, none⟩ (.int .u32 (e : Int))).setCell ⟨g, 5, none⟩ (.int .u32 (f : Int))).setCell ⟨g, 6, none⟩ (.int .u32 (g' : Int))).setCell ⟨g, 7, none⟩ (.int .u32 (h : Int))
theorem wa_turn8 {w : World} {g : Nat} {t : TypeId} {a b c d e f g' h a1 b1 c1 d1 e1 f1 g1 h1 : Nat} (H : Wa w g t [a, b, c, d, e, f, g', h]) : Wa (turn8 w g a1 b1 c1 d1 e1 f1 g1 h1) g t [a1, b1, c1, d1, e1, f1, g1, h1] :=
  ((((((((H.put 0 a1).put 1 b1).put 2 c1).put 3 d1).put 4 e1).put 5 f1).put 6 g1).put 7 h1)
theorem below_turn8 {w w' : World} {B g : Nat} (hb : Below B w w') (hg : B ≤ g) (a b c d e f g' h : Nat) : Below B w (turn8 w' g a b c d e f g' h) :=
  ((((((((hb.setCell (p := ⟨g, 0, none⟩) hg _).setCell (p := ⟨g, 1, none⟩) hg _).setCell (p := ⟨g, 2, none⟩) hg _).setCell (p := ⟨g, 3, none⟩) hg _).setCell (p := ⟨g, 4, none⟩) hg _).setCell (p := ⟨g, 5, none⟩) hg _).setCell (p := ⟨g, 6, none⟩) hg _).setCell (p := ⟨g, 7, none⟩) hg _)
theorem wa_turn8_other {w : World} {g g2 : Nat} {t : TypeId} {M : List Nat} (H : Wa w g2 t M) (hg : g ≠ g2) (a b c d e f g' h : Nat) : Wa (turn8 w g a b c d e f g' h) g2 t M :=
  ((((((((H.set_other hg _).set_other hg _).set_other hg _).set_other hg _).set_other hg _).set_other hg _).set_other hg _).set_other hg _)
/-- The words in their box, the result's block as it was made. -/
structure MbW (w : World) (s : St) (W : World) : Prop where
  row : Wa W w.heap.size 36 s.l
  res : Wa W (w.heap.size + 1) 36 [0, 0, 0, 0, 0, 0, 0, 0]
  bel : Below w.heap.size w W
def MbRel (w : World) (N : Nat) (l : List Nat) (s : St) (i : Value) (wr : World) : Prop := ∃ n : Nat, n ≤ N / 64 ∧ i = .int .i64 ((64 * n : Nat) : Int) ∧ MbW w (blks (co l) s n) wr
set_option maxRecDepth 100000 in
set_option maxHeartbeats 2000000 in
theorem mixBlocks_any (s : St) (hs : s.Ok) (A : Option Addr) (c : Nat) (l : List Nat) (w : World) (hI : In w w.heap.size A c l) (hl : l.length % 64 = 0) (hcm : l.length ≤ 140737488355328) (hK : KT w) :
    Calls Tryd.prog 17 #[.agg (u32v s.l), .slice A l.length c] w fun e w' => e = .returned (.agg (u32v (blks (co l) s (l.length / 64)).l)) ∧ Below w.heap.size w w' := by
  have hz8 := zero8
  have hst : MbW w s ((w.alloc (.cells (u32v s.l) 36)).alloc (.cells (u32v [0, 0, 0, 0, 0, 0, 0, 0]) 36)) :=
    ⟨(Wa.new w 36 s.l).alloc _, by have := Wa.new (w.alloc (.cells (u32v s.l) 36)) 36 [0, 0, 0, 0, 0, 0, 0, 0]; rwa [World.size_alloc] at this, ((Below.refl _ w).alloc (Nat.le_refl _) _).alloc (by simp) _⟩
  have hcap := hI.cap
  obtain ⟨N, hN⟩ : ∃ N, N = l.length := ⟨_, rfl⟩
  rw [← hN] at hl hcm hcap ⊢
  have HN := Lib.hid hN
  clear hN
  go_enter Tryd.func17, Tryd.ntmps17
  go_wp2
  clear hz8
  go_loopw [5] (MbRel w N l s) (fun i _ => N - (intOf i).toNat)
  case atStart => exact ⟨0, by omega, rfl, hst⟩
  case round =>
    clear hst
    obtain ⟨n, hn, rfl, hS⟩ := hrel
    by_cases hlt : 64 * n < N
    · obtain ⟨q, hq⟩ : ∃ q, q = 64 * n := ⟨_, rfl⟩
      obtain ⟨x0, b, off, _, _, rfl, hb, _⟩ := hI.sl.at_ (k := 0) (by have := HN.out; omega)
      rw [← hq] at hlt ⊢
      obtain ⟨r, hr⟩ : ∃ r, r = q + 64 := ⟨_, rfl⟩
      have hq1 : IntKind.i64.wrap ((q : Int) + 64) = (r : Int) := by rw [IntKind.wrap_i64]; omega
      have hq2 : r ≤ c := by omega
      have hq3 : q ≤ r := by omega
      have hq4 : q < c := by omega
      have hqc : ¬ c = q := by omega
      have hq5 : r - q = 64 := by omega
      have hq6 : (r : Int) ≤ (c : Int) := by omega
      have hq7 : (q : Int) ≤ (r : Int) := by omega
      have hI2 : In w w.heap.size (some ⟨b, off + q, none⟩) (c - q) ((l.drop q).take 64) := ⟨(hI.sl.drop q).take 64, by simp only [List.length_take, List.length_drop]; have := HN.out; omega, fun h => by cases h⟩
      have HL2 := Lib.hid (show ((l.drop q).take 64).length = 64 by simp only [List.length_take, List.length_drop]; have := HN.out; omega)
      have HSC := Lib.hid (show sc (co ((l.drop q).take 64)) 64 = sc (fun i => co l (64 * n + i)) 64 from sc_congr (fun i hi => by rw [co_take hi, co_drop, hq]) 64)
      have HBB := Lib.hid (show ∀ i, co ((l.drop q).take 64) i < 256 from fun i => hI2.bb.co i)
      have HOK := Lib.hid (blks_ok (co l) hs n)
      have hw1 := hS.bel.size
      have hdw := hI2.below hS.bel
      have HIr : Hid (In wr wr.heap.size (some ⟨b, off + q, none⟩) (c - q) ((l.drop q).take 64)) := Lib.hid (hdw.more hw1)
      have hKr := hK.to hS.bel
      have HKr := Lib.hid hKr
      have HS := Lib.hid hS
      have hl8 : (blks (co l) s n).l = [(blks (co l) s n).a, (blks (co l) s n).b, (blks (co l) s n).c, (blks (co l) s n).d, (blks (co l) s n).e, (blks (co l) s n).f, (blks (co l) s n).g, (blks (co l) s n).h] := rfl
      have HBN := Lib.hid (show blks (co l) s (n + 1) = plus (blks (co l) s n) (rds (sc (fun i => co l (64 * n + i)) 64) (blks (co l) s n) 64) from rfl)
      rw [← HSC.out] at HBN
      obtain ⟨S, hSS⟩ : ∃ S, S = blks (co l) s n := ⟨_, rfl⟩
      obtain ⟨T, hTT⟩ : ∃ T, T = blks (co l) s (n + 1) := ⟨_, rfl⟩
      rw [← hSS] at HS HOK HBN
      rw [← hTT] at HBN
      have HTT := Lib.hid hTT
      clear hl8 hSS hTT
      obtain ⟨a0, a1, a2, a3, a4, a5, a6, a7⟩ := S
      obtain ⟨b0, b1, b2, b3, b4, b5, b6, b7⟩ := T
      have hrow : Wa wr w.heap.size 36 [a0, a1, a2, a3, a4, a5, a6, a7] := HS.out.row
      have HROW := Lib.hid hrow
      obtain ⟨c0, c1, c2, c3, c4, c5, c6, c7, z0, z1, z2, z3, z4, z5, z6, z7⟩ := wa_c8 hrow
      have HQ := Lib.hid hq
      have HR := Lib.hid hr
      clear hS hdw hI2 hKr hq hr
      go_wp2
      clear hrow
      go_region_law (first
        | (refine step_call rfl 21 _ _ rfl #[.slice (some ⟨b, off + q, none⟩) 64 (c - q)] (by kernel_rfl) (by first | rfl | (simp [Act.eval]; done) | (simp [Act.eval, Act.put]; done)) (spread_any _ _ ((l.drop q).take 64) _ (HIr.out.drewN 1) HL2.out) ?_
           rintro e w2 ⟨rfl, hB2⟩
           have hB2' : Below wr.heap.size wr w2 := drewN_below (n := 1) hB2
           obtain ⟨d0, d1, d2, d3, d4, d5, d6, d7, y0, y1, y2, y3, y4, y5, y6, y7⟩ := wa_c8 (HROW.out.below hB2' HROW.out.lt)
           refine ⟨_, rfl, ?_⟩)
        | (refine step_call rfl 20 _ _ rfl #[.agg #[.int .u32 (a0 : Int), .int .u32 (a1 : Int), .int .u32 (a2 : Int), .int .u32 (a3 : Int), .int .u32 (a4 : Int), .int .u32 (a5 : Int), .int .u32 (a6 : Int), .int .u32 (a7 : Int)], .agg (u32v (sc (co ((l.drop q).take 64)) 64))] (by kernel_rfl) (by first | rfl | (simp [Act.eval]; done) | (simp [Act.eval, Act.put]; done)) (mix_any ⟨a0, a1, a2, a3, a4, a5, a6, a7⟩ HOK.out _ (sc_len _ 64) (Sh.sc_lt HBB.out 64) _ (HKr.out.to hB2')) ?_
           rintro e w3 ⟨rfl, hB3⟩
           have hB3' : Below wr.heap.size wr w3 := hB2'.trans (hB3.mono hB2'.size)
           obtain ⟨e0, e1, e2, e3, e4, e5, e6, e7, x0, x1, x2, x3, x4, x5, x6, x7⟩ := wa_c8 (HROW.out.below hB3' HROW.out.lt)
           refine ⟨.agg #[.int .u32 (b0 : Int), .int .u32 (b1 : Int), .int .u32 (b2 : Int), .int .u32 (b3 : Int), .int .u32 (b4 : Int), .int .u32 (b5 : Int), .int .u32 (b6 : Int), .int .u32 (b7 : Int)], (by rw [← HBN.out]; rfl), ?_⟩))
      all_goals (
        have hW4 : MbW w ⟨b0, b1, b2, b3, b4, b5, b6, b7⟩ (turn8 w3 w.heap.size b0 b1 b2 b3 b4 b5 b6 b7) :=
          ⟨wa_turn8 (HROW.out.below hB3' HROW.out.lt), wa_turn8_other (HS.out.res.below hB3' HS.out.res.lt) (by omega) _ _ _ _ _ _ _ _, below_turn8 (HS.out.bel.trans (hB3'.mono HS.out.bel.size)) (Nat.le_refl _) _ _ _ _ _ _ _ _⟩
        have HW4 := Lib.hid hW4
        clear hW4 hB3' hB3 hB2' hB2 c0 c1 c2 c3 c4 c5 c6 c7 z0 z1 z2 z3 z4 z5 z6 z7 d0 d1 d2 d3 d4 d5 d6 d7 y0 y1 y2 y3 y4 y5 y6 y7 e0 e1 e2 e3 e4 e5 e6 e7 x0 x1 x2 x3 x4 x5 x6 x7
        change Exit.inBlock _ _ _ _ (turn8 w3 w.heap.size b0 b1 b2 b3 b4 b5 b6 b7)
        obtain ⟨W4, hW4⟩ : ∃ W4, W4 = turn8 w3 w.heap.size b0 b1 b2 b3 b4 b5 b6 b7 := ⟨_, rfl⟩
        rw [← hW4] at HW4 ⊢
        clear hW4
        go_wp2
        go_roundw
        case rel => exact ⟨n + 1, by have := HQ.out; omega, by have := HQ.out; go_num, by rw [← HTT.out]; exact HW4.out⟩
        case measure => simp [intOf]; have := HQ.out; omega)
    · have hnN : n = N / 64 := by omega
      subst hnN
      have HRS := Lib.hid hS.res
      have HRW := Lib.hid hS.row
      obtain ⟨S, hSS⟩ : ∃ S, S = blks (co l) s (N / 64) := ⟨_, rfl⟩
      rw [← hSS] at HRW
      have HSS := Lib.hid hSS
      have HR := Lib.hid (setRow_heap wr (w.heap.size + 1) (u32v [0, 0, 0, 0, 0, 0, 0, 0]) (u32v S.l) 36 (0, 0) hS.res)
      have HB := Lib.hid (below_setRow (g := w.heap.size + 1) hS.bel (by omega) (u32v S.l))
      have hge : ¬ ((64 * (N / 64) : Nat) : Int) < (N : Int) := by omega
      clear hS hSS
      obtain ⟨q, hq⟩ : ∃ q, q = 64 * (N / 64) := ⟨_, rfl⟩
      rw [← hq] at hge ⊢
      clear hq
      go_wp2_with (first | (refine wpList_load_row rfl 36 (.tmp 2) rfl _ rfl _ _ _ _ HRW.out Tryd.underlying36 rfl arr8_info ?_) | (refine wpList_store_row rfl 36 (.tmp 4) (.tmp 20) rfl _ (u32v S.l) rfl rfl _ _ HRS.out arr8_info rfl (u32v_one _) ?_) | fail)
      refine bodyPost_ret (results_cell_row rfl _ _ _ _ _ _ _ rfl HR.out Tryd.underlying36 rfl arr8_info) rfl ?_
      exact ⟨by rw [HSS.out], HB.out⟩
end Go.Proofs.YtfemcofjhcanhaaDoor
