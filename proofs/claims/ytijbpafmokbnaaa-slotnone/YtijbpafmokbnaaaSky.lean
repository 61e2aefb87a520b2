/- The program's slot: Start. -/
import Derived.Test.YtijbpafmokbnaaaSkx
namespace Go.Proofs.Ytijbpafmokbnaaa
open Go.RowKit Go.Shelf Gw Pol Gq Go.BigFrame
attribute [local go_sem] Oper.semAt_some
theorem on_can (u : Nat) : Pw.can ⟨-1, false, u⟩ = true := rfl
theorem on_one (u : Nat) : Pw.one ⟨-1, false, u⟩ = ⟨-1, false, u + 1⟩ := by
  rw [Pw.one_yes (on_can u)]
  show (⟨if 0 < (-1 : Int) then (-1 : Int) - 1 else -1, false, u + 1⟩ : Pw) = _
  rw [if_neg (by omega)]
/-- Noughts from block f on. -/
def wsZ (f : Nat) (i : Nat) : Nat × List Nat := (f + i, z32)
theorem wsZ_co {L : List Nat} {f N : Nat} (hL : L.length = 32 * N) : ∀ d : Nat, f + d ≤ N → (lay (wsZ f) L d).length = 32 * N ∧ ∀ t, co (lay (wsZ f) L d) t = if 32 * f ≤ t ∧ t < 32 * (f + d) then 0 else co L t
  | 0, _ => ⟨hL, fun t => by rw [if_neg (by omega)]; rfl⟩
  | d + 1, h => by
    obtain ⟨i1, i2⟩ := wsZ_co (f := f) (N := N) hL d (by omega)
    have hz : z32.length = 32 := rfl
    have e : lay (wsZ f) L (d + 1) = laid (lay (wsZ f) L d) ((f + d) * 32) z32 := rfl
    rw [e]
    refine ⟨by rw [laid_len (by omega), i1], fun t => ?_⟩
    rw [co_laid t (by omega), hz, i2 t, co_z32]
    by_cases c : (f + d) * 32 ≤ t ∧ t < (f + d) * 32 + 32
    · rw [if_pos c, if_pos (by omega)]
    · rw [if_neg c]
      by_cases c2 : 32 * f ≤ t ∧ t < 32 * (f + d)
      · rw [if_pos c2, if_pos (by omega)]
      · rw [if_neg c2, if_neg (by omega)]
theorem wsZ_sd {r side : Nat} {L K : List Nat} (h : Sd r L side K) : ∀ d : Nat, d ≤ r → Sd r (lay (wsZ (1 + (1 - side) * r)) L d) side K
  | 0, _ => h
  | d + 1, hd => (wsZ_sd h d (by omega)).wipe d (by omega)
theorem wsZ_cl {r side : Nat} {L K : List Nat} (h : Sd r L side K) : Cl r (lay (wsZ (1 + (1 - side) * r)) L r) side := fun a ha => by
  have h2 := h.two
  have hs : (1 - side) * r ≤ r := by rcases (by omega : side = 0 ∨ side = 1) with e | e <;> rw [e] <;> omega
  rw [(wsZ_co h.len r (by omega)).2, if_pos (by omega)]
/-- Noughts where there are noughts. -/
theorem laid_nought {L : List Nat} {q N : Nat} (hL : L.length = 32 * N) (hq : q < N) (h : piece L q = z32) : laid L (q * 32) z32 = L := by
  have hz : z32.length = 32 := rfl
  refine ext_co (laid_len (by omega)) fun t ht => ?_
  rw [co_laid t (by omega), hz, co_z32]
  by_cases c : q * 32 ≤ t ∧ t < q * 32 + 32
  · rw [if_pos c]
    have h1 : co (piece L q) (t - q * 32) = co L t := by
      rw [co_piece (by omega)]
      congr 1
      omega
    rw [← h1, h, co_z32]
  · rw [if_neg c]
/-- Between two rounds: R is where the slot is told, E where the noughts are. -/
def StI (w : World) (a p g r f R E : Nat) (L : List Nat) (u0 : Nat) (pre : List (Nat × List Nat)) (W : World) : Prop :=
  ∃ u, u ≤ u0 + pre.length ∧ Sz W a p g r (lay (wsZ f) L pre.length) ⟨-1, false, u⟩ ∧ K2 w W p g ∧ W.heap[R]? = some (.cells #[.pointer (some ⟨a, 0, none⟩)] 23 (0, 0)) ∧ Bk W E 58 z32
theorem StI.own (w : World) (a p g r f R E : Nat) (L : List Nat) (u0 B : Nat) (hB : w.heap.size ≤ B) (hl : a < B ∧ p < B ∧ g < B ∧ R < B ∧ E < B) : OwnFrom B (StI w a p g r f R E L u0) := by
  rintro x A D row ⟨u, h1, h2, h3, h4, h5⟩ hg hr
  have hr' : ∀ r, row = some r → B ≤ r := fun r e => (hr r e).1
  exact ⟨u, h1, h2.grown hg (fun k e => by have := hr' k e; omega), k2_later h3 hg hB hr', heap_later h4 hg (by omega) hr', heap_later h5 hg (by omega) hr'⟩
set_option maxRecDepth 100000 in
set_option maxHeartbeats 2000000 in
theorem zstart_in (a p g r side : Nat) (L K : List Nat) (s : Pw) (w : World) (h : Sz w a p g r L s) (hd : Sd r L side K) (hu : s.u < 2305843009213693952) :
    CallsIn Fence.wide 6 Try.prog 13 #[.pointer (some ⟨a, 0, none⟩)] w fun e w' => ∃ L' u', e = .returned (.tuple #[]) ∧ Sz w' a p g r L' ⟨-1, false, u'⟩ ∧ Sd r L' side K ∧ Cl r L' side ∧ u' ≤ s.u + r ∧ K3 w w' a p g := by
  have hfew := hd.few
  have h2 := hd.two
  have hlt := h.lt
  have hL := hd.len
  obtain ⟨n, hn⟩ : ∃ n, n = K.length := ⟨_, rfl⟩
  obtain ⟨sd, hsd⟩ : ∃ sd, sd = 1 - side := ⟨_, rfl⟩
  have hsd2 : sd ≤ 1 := by omega
  obtain ⟨f, hf⟩ : ∃ f, f = 1 + sd * r := ⟨_, rfl⟩
  have hfr : f ≤ 1 + r := by rw [hf]; rcases (by omega : sd = 0 ∨ sd = 1) with e | e <;> rw [e] <;> omega
  have HSUB := Lib.hid (show (1 : Int) - (side : Int) = (sd : Int) by omega)
  have HSW := Lib.hid (show IntKind.i64.wrap (sd : Int) = (sd : Int) by rw [IntKind.wrap_i64]; omega)
  have HFD := Lib.hid (show ∀ w, (Instr.field 54 (.agg #[.int .i64 (side : Int), .int .i64 (n : Int)]) 0).run Try.prog w = .ok (.int .i64 (side : Int)) w from fun w => by kernel_rfl)
  have HHD := Lib.hid hd
  have HN := Lib.hid hn
  have HSD := Lib.hid hsd
  have HF := Lib.hid hf
  have HLL := Lib.hid hL
  have HU := Lib.hid hu
  have hzz := zero_blk
  obtain ⟨W1, hW1⟩ : ∃ W1, W1 = w.alloc (.cells #[.pointer (some ⟨a, 0, none⟩)] 23) := ⟨_, rfl⟩
  have hb1 : Below w.heap.size w W1 := by rw [hW1]; exact (Below.refl _ w).alloc (Nat.le_refl _) _
  have hs1 : W1.heap.size = w.heap.size + 1 := by rw [hW1]; simp
  have d1 : W1.heap[w.heap.size]? = some (.cells #[.pointer (some ⟨a, 0, none⟩)] 23 (0, 0)) := by rw [hW1]; exact heap_alloc_new w _
  have hS1 := h.below hb1 (Nat.le_refl _)
  have ca := hS1.cell
  have HON := Lib.hid (dz_on p g (1 + 2 * r) L s W1 hS1.dz)
  have HS1 := Lib.hid hS1
  have HB1 := Lib.hid hb1
  have HD1 := Lib.hid d1
  rw [hW1] at ca
  clear h hd hn hsd hf hL hu hb1 d1 hS1
  refine callsIn_of_wp_marks Try.func13 rfl trivial ?_ rfl
  simp only [Try.ntmps13, List.size_toArray, List.length_cons, List.length_nil, Nat.reduceAdd, Nat.reduceSub, Array.replicate_succ, Array.replicate_zero, List.push_toArray, List.append_toArray, List.nil_append, List.cons_append]
  gi_wp2_with fail
  rw [← hW1]
  refine ⟨trivial, ?_⟩
  refine (callsIn_wide.2 HON.out).mono ?_
  rintro e w2 ⟨rfl, hd2, hk2⟩
  have hS2 := HS1.out.turned hk2 hd2
  have d2 := (hk2.block _ (Array.getElem?_eq_some_iff.1 HD1.out).1 (by omega) (by omega)).trans HD1.out
  have hkw := (K2.ofBelow (p := p) (g := g) HB1.out (Nat.le_refl _)).trans hk2 (.inl rfl)
  have hs2 := hk2.size
  clear ca hW1 HON hd2 hk2
  gi_wp2
  obtain ⟨W3, hW3⟩ : ∃ W3, W3 = w2.alloc (.cells (bys z32).toArray 58) := ⟨_, rfl⟩
  rw [← hW3]
  have hs3 : W3.heap.size = w2.heap.size + 1 := by rw [hW3]; simp
  have hb3 : Below w2.heap.size w2 W3 := by rw [hW3]; exact (Below.refl _ w2).alloc (Nat.le_refl _) _
  have d3 := (hb3.block _ (Array.getElem?_eq_some_iff.1 d2).1).trans d2
  have e3 : Bk W3 w2.heap.size 58 z32 := by rw [hW3]; exact Bk.new w2 _ _ rfl
  have HC := Lib.hid (show W3.cell? ⟨w.heap.size, 0, none⟩ = some (.pointer (some ⟨a, 0, none⟩)) by rw [cell_of_row W3 _ 0 _ _ (0, 0) d3]; rfl)
  have HS3 := Lib.hid (hS2.below hb3 (Nat.le_refl _))
  have HK3 := Lib.hid (hkw.trans (K2.ofBelow (p := p) (g := g) hb3 (Nat.le_refl _)) (.inl rfl))
  have HD3 := Lib.hid d3
  have HE3 := Lib.hid e3
  clear hW3 hb3 d3 e3 hS2 d2 hkw
  refine Gt.regionJF (fun w5 => Below W3.heap.size W3 w5) [] [Gt.Is (.pointer (some ⟨a, 0, none⟩)), Gt.Is (.pointer (some ⟨a, 0, none⟩)), Gt.Is (.pointer (some ⟨a, 0, none⟩)), Gt.Is (.agg #[.int .i64 (side : Int), .int .i64 (n : Int)]), Gt.Is (.int .i64 (side : Int)), Gt.Is (.int .i64 (sd : Int)), Gt.Is (.int .i64 (f : Int)), Gt.Is (.pointer (some ⟨a, 0, none⟩)), Gt.Is (.int .i64 (r : Int)), FnIs W3.heap.size a f r] 34 10
    [⟨[], [1], none⟩, ⟨[], [1], none⟩, ⟨[], [1], none⟩, ⟨[(2, 14)], [], none⟩, ⟨[(3, 15)], [], none⟩, ⟨[(4, 16)], [], none⟩, ⟨[(1, 13), (5, 17)], [], none⟩, ⟨[], [1], none⟩, ⟨[(7, 19)], [], none⟩, ⟨[(0, 12), (6, 18), (8, 20)], [], none⟩]
    [(0, 12), (1, 13), (2, 14), (3, 15), (4, 16), (5, 17), (6, 18), (7, 19), (8, 20), (9, 21)] (by kernel_rfl) (by kernel_rfl) (by kernel_rfl) (by kernel_rfl) (by kernel_rfl) (by kernel_rfl) ?_ ?_ ?_ ?_ ?_
  · refine Gt.Laws.grow (fun w5 w6 h5 h6 => h5.trans (Below.mono h6 (Below.size h5))) ?_
    simp only [Gt.Monos]
    repeat' apply And.intro
    all_goals (first | exact trivial | exact Gt.Is.mono _ | exact FnIs.mono _ _ _ _)
  · exact (Below.refl _ W3).drew
  · intro x5 hx5
    cases hx5
  · simp only [List.take_succ_cons, List.take_zero, Gt.ObsJ]
    repeat' apply And.intro
    all_goals try exact trivial
    all_goals (
      intro aa w5 hS _
      have hS' : Below W3.heap.size W3 w5 := hS
      have q0 := (hS'.cell (p := ⟨w.heap.size, 0, none⟩) (cell_lt HC.out)).trans HC.out
      have hsub := HSUB.out
      have hsw := HSW.out
      have hfd := HFD.out w5
      have hSZ5 := HS3.out.below hS' (Nat.le_refl _)
      simp only [Gt.Pre, Gt.Kept, Gt.Guarded, Gt.tys, List.getD_cons_zero, List.getD_cons_succ, Gt.Is, Nat.zero_add, Nat.reduceAdd]
      intros)
    all_goals (first
      | exact Gt.ok_move rfl (by assumption)
      | (refine Gt.ok_call (f := 28) rfl #[.pointer (some ⟨a, 0, none⟩)] (by kernel_rfl) (by simp [*]) ((zroot_any a p g r side L K _ w5 hSZ5 HHD.out).mono ?_)
         rintro e w6 ⟨rfl, hb6⟩
         exact ⟨_, rfl, hb6, by rw [← HN.out]; rfl⟩)
      | (refine Gt.ok_call (f := 34) rfl #[.pointer (some ⟨a, 0, none⟩), .int .i64 (sd : Int)] (by kernel_rfl) (by simp [*]) ((zfirst_f a p g r sd f L _ w5 HF.out hSZ5 hsd2).mono ?_)
         rintro e w6 ⟨rfl, rfl⟩
         exact ⟨_, rfl, Below.refl _ _, rfl⟩)
      | (refine Gt.ok_call (f := 27) rfl #[.pointer (some ⟨a, 0, none⟩)] (by kernel_rfl) (by simp [*]) ((zroom_any a p g r L _ w5 hSZ5).mono ?_)
         rintro e w6 ⟨rfl, rfl⟩
         exact ⟨_, rfl, Below.refl _ _, rfl⟩)
      | (exact Gt.ok_call (f := 33) rfl #[.pointer (some ⟨a, 0, none⟩), .int .i64 (f : Int), .int .i64 (r : Int)] (by kernel_rfl) (by simp [*]) (zblocks_is a f r w5 W3.heap.size hS'.size))
      | (refine Gt.ok_run ?_ rfl
         simp only [execOp, *]
         go_simp
         done))
  · intro aa w5 hS
    have hS' : Below W3.heap.size W3 w5 := hS
    simp only [Gt.Pre, Gt.tys, List.getD_cons_zero, List.getD_cons_succ, Gt.Is]
    intro h0 h1 h2' h3 h4 h5 h6 h7 h8 h9
    obtain ⟨q, hq, h9, b0, b1, b2⟩ := h9
    simp only [Gt.puts, List.foldl_cons, List.foldl_nil, h0, h1, h2', h3, h4, h5, h6, h7, h8, h9]
    simp only [Act.put, List.setIfInBounds_toArray, List.set_cons_zero, List.set_cons_succ, List.drop_succ_cons, List.drop_zero]
    gi_wp2
    clear h0 h1 h2' h3 h4 h5 h6 h7 h8 h9
    have hs5 := hS'.size
    have hS5 := HS3.out.below hS' (Nat.le_refl _)
    have hk5 := HK3.out.trans (K2.ofBelow (p := p) (g := g) hS' (Nat.le_refl _)) (.inl rfl)
    have e1 := (hS'.block _ (Array.getElem?_eq_some_iff.1 HD3.out).1).trans HD3.out
    have e2 := HE3.out.keep (hS'.block _ HE3.out.lt)
    have hq2 : q + 2 < w5.heap.size := cell_lt b2
    clear hS' hS HS3 HK3 HD3 HE3
    refine Gq.range_memR (by omega) (gf := 42) (lb := #[.pointer (some ⟨q + 1, 0, none⟩), .pointer (some ⟨q + 2, 0, none⟩), .pointer (some ⟨q, 0, none⟩)]) rfl (enters_of Try.func42 (by kernel_rfl) rfl)
      (zblocks_seq (6 - 1) (by omega) q a p g r f r L _ w5 hS5 (by omega) b0 b1 b2)
      (fun h k => KpB.trans h k) (fun W l o o' hl _ _ => KpB.put (by omega)) (fun _ => rfl) (ZRd.own a p g r f r _ (by omega))
      (StI w a p g r f w.heap.size w2.heap.size L s.u) (fun _ _ _ => False) (StI.own w a p g r f _ _ L s.u _ (by omega) (by omega)) (fun _ => fun _ _ _ _ h _ _ => h)
      ⟨s.u, Nat.le_refl _, hS5, hk5, e1, e2⟩
      (fun x a' W => ∃ bb, a' = { tmps := #[.pointer (some ⟨a, 0, none⟩), .pointer (some ⟨w.heap.size, 0, none⟩), .pointer (some ⟨w2.heap.size, 0, none⟩), .int .i64 (x.1 : Int), .pointer (some ⟨bb, 0, none⟩), .pointer (some ⟨a, 0, none⟩), .bool false, .pointer (some ⟨a, 0, none⟩), .pointer (some ⟨a, 0, none⟩), .pointer (some ⟨a, 0, none⟩), .pointer (some ⟨p, 0, none⟩), .tuple #[], .pointer (some ⟨a, 0, none⟩), .pointer (some ⟨a, 0, none⟩), .pointer (some ⟨a, 0, none⟩), .agg #[.int .i64 (side : Int), .int .i64 (n : Int)], .int .i64 (side : Int), .int .i64 (sd : Int), .int .i64 (f : Int), .pointer (some ⟨a, 0, none⟩), .int .i64 (r : Int), .func (.func 42) #[] #[.pointer (some ⟨q + 1, 0, none⟩), .pointer (some ⟨q + 2, 0, none⟩), .pointer (some ⟨q, 0, none⟩)], .int .i64 (x.1 : Int), .agg (bys x.2).toArray, undef, undef, undef, undef, undef, undef, undef, undef, undef, undef], defers := [] } ∧ Bk W bb 58 x.2 ∧ w5.heap.size ≤ bb)
      (fun x a' _ A D row ⟨b, h1, h2, h3⟩ hg hr => ⟨b, h1, bk_turned h2 hg (fun r e => (hr r e).2), h3⟩) ?assign ?body ?done ?stop
    case assign =>
      rintro l pre x W K hWs hi hrd hK
      have h32 := hrd.2.2.1
      clear hrd hi
      obtain ⟨n1, n2⟩ := blk_new W x.2
      obtain ⟨z1, z2, _⟩ := blk_size h32
      have HNW := Lib.hid (heap_alloc_new W (.cells (bys z32).toArray 58))
      have HKK := Lib.hid (hK _ _ n1 (KpB.below (grown_below n1) (Nat.le_refl _) (by omega)) ⟨_, rfl, n2, hWs⟩)
      have HZ1 := Lib.hid z1
      have HZ2 := Lib.hid z2
      clear hK n1 n2 z1 z2
      gi_wp2_with (first | (refine wpListIn_store_row rfl 58 (.tmp 4) (.tmp 23) rfl _ (bys x.2).toArray rfl rfl _ _ HNW.out HZ1.out HZ2.out (bysK_one _) ?_) | fail)
      exact HKK.out
    case body =>
      rintro lb pre ⟨nn, bl⟩ aa W ⟨u, hu, hSW, hkW, hR, hE⟩ ⟨hy1, hpc, hy3, L', s', hS2, hy2⟩ ⟨bb, rfl, hbk, hbn⟩
      have mixed : Try.prog.follows .mixedOrders = true := by kernel_rfl
      have hWs : w5.heap.size < W.heap.size := Nat.lt_of_le_of_lt hbn (Bk.lt hbk)
      obtain ⟨Ln, hLn⟩ : ∃ Ln, Ln = lay (wsZ f) L pre.length := ⟨_, rfl⟩
      rw [← hLn] at hSW
      obtain rfl : Ln = L' := hSW.one hS2
      have hx1 : nn = f + pre.length := hy1
      have hx2 : bl = piece Ln nn := hy2
      have h32' : bl.length = 32 := hy3
      clear hy1 hy2 hy3
      have hnr : nn < 1 + 2 * r := by omega
      have hrng := hbk.range 0 32
      rw [List.drop_zero, List.take_of_length_le (show bl.length ≤ 32 by omega)] at hrng
      have hzrng := hE.range 0 32
      rw [List.drop_zero, List.take_of_length_le (show (z32 : List Nat).length ≤ 32 by decide)] at hzrng
      have HRNG := Lib.hid hrng
      have HZR := Lib.hid hzrng
      have HLN := Lib.hid (blk_size h32').2.2
      have HLZ := Lib.hid (blk_size (b := z32) rfl).2.2
      have hc1 : W.cell? ⟨w.heap.size, 0, none⟩ = some (.pointer (some ⟨a, 0, none⟩)) := by rw [cell_of_row W _ 0 _ _ (0, 0) hR]; rfl
      have ca := hSW.cell
      have HE := Lib.hid hE
      have HRR := Lib.hid hR
      have HSW := Lib.hid hSW
      have HKW := Lib.hid hkW
      have HLL2 := Lib.hid hLn
      have HX1 := Lib.hid hx1
      have HX2 := Lib.hid hx2
      have HUU := Lib.hid hu
      have heq := fun W => blocks_eq bl z32 h32' rfl W
      have hl : (pre ++ [(nn, bl)]).length = pre.length + 1 := by rw [List.length_append]; rfl
      have HL1 := Lib.hid hl
      have hstep : lay (wsZ f) L (pre.length + 1) = laid Ln (nn * 32) z32 := by rw [lay_succ, ← hLn, hx1]; rfl
      have HST := Lib.hid hstep
      clear hS5 hk5 e1 e2 b0 b1 b2 hSW hS2 hkW hR hE hrng hzrng hbk hx1 hx2 hLn hu hl hstep
      by_cases hz : bl = z32
      · rw [decide_eq_true hz] at heq
        subst hz
        gi_wp2_with (first | (refine wpListIn_load_mid rfl 58 (.tmp 4) rfl bb 0 rfl (bys z32) _ HRNG.out Try.underlying58 rfl HLN.out ?_) | (refine wpListIn_load_mid rfl 58 (.tmp 2) rfl w2.heap.size 0 rfl (bys z32) _ HZR.out Try.underlying58 rfl HLZ.out ?_) | fail)
        refine ⟨KeepsOthers.refl _, ⟨Nat.le_refl _, fun _ _ => rfl, fun L s h => ⟨L, s, h⟩⟩, u, ?_, ?_, HKW.out, HRR.out, HE.out⟩
        · rw [HL1.out]; have := HUU.out; omega
        · rw [HL1.out, HST.out, laid_nought HSW.out.dz.len hnr HX2.out.symm]
          exact HSW.out
      · rw [decide_eq_false hz] at heq
        gi_wp2_with (first | (refine wpListIn_load_mid rfl 58 (.tmp 4) rfl bb 0 rfl (bys bl) _ HRNG.out Try.underlying58 rfl HLN.out ?_) | (refine wpListIn_load_mid rfl 58 (.tmp 2) rfl w2.heap.size 0 rfl (bys z32) _ HZR.out Try.underlying58 rfl HLZ.out ?_) | fail)
        refine Gq.region_round 6 mixed (by kernel_rfl) (by kernel_rfl) ?_
        simp only [List.take_succ_cons, List.take_zero, List.drop_succ_cons, List.drop_zero]
        repeat (go_big_quiet_step (fail))
        refine wpQuiet_nil ?_
        intro _ hw'
        obtain ⟨nq, hw''⟩ := hw'
        subst hw''
        have hzsl : Sl W W.heap.size (some ⟨w2.heap.size, 0, none⟩) z32 := by
          have := HE.out.sl (fun x hx => by rw [List.eq_of_mem_replicate hx]; omega) 0 32
          rwa [List.drop_zero, List.take_of_length_le (show (z32 : List Nat).length ≤ 32 by decide)] at this
        have HZS := Lib.hid hzsl
        clear hzsl
        gi_wp2_with fail
        refine ⟨trivial, ?_⟩
        refine (CallsIn.inRound lb (callsIn_wide.2 (dz_write p g (1 + 2 * r) Ln ⟨-1, false, u⟩ ⟨-1, false, u + 1⟩ true nn (some ⟨w2.heap.size, 0, none⟩) 32 W.heap.size z32 (W.drewN nq) (HSW.out.drewN nq).dz (on_one u).symm (on_can u).symm hnr HZS.out (fun o e => by injection e with e; injection e with e; omega) rfl (by show u < _; have := HUU.out; have := HU.out; omega)))).mono ?_
        rintro e W5 ⟨rfl, hd5, hk5⟩
        have hk5' : K2 W W5 p g := ⟨hk5.os, hk5.tape, hk5.output, hk5.size, hk5.block⟩
        have hS5 := HSW.out.turned hk5' hd5
        have hko : KeepsOthers W W5 := others_k2 hk5' HSW.out.isc.1 HSW.out.isc.2
        have g0 := (hk5'.block _ (Array.getElem?_eq_some_iff.1 HRR.out).1 (by omega) (by omega)).trans HRR.out
        have g1 := HE.out.keep (hk5'.block _ HE.out.lt (by omega) (by omega))
        have HFIN := Lib.hid (show KeepsOthers W W5 ∧ KpB q a p g r W W5 ∧ StI w a p g r f w.heap.size w2.heap.size L s.u (pre ++ [(nn, bl)]) W5 from ⟨hko, KpB.disk hk5' (by omega) (by omega) (by omega) hS5, u + 1, by rw [HL1.out]; have := HUU.out; omega, by rw [HL1.out, HST.out]; exact hS5, HKW.out.trans hk5' (.inl rfl), g0, g1⟩)
        clear hd5 hk5 hk5' hS5 hko g0 g1 ca hc1 heq
        gi_wp2
        exact HFIN.out
    case done =>
      rintro D pre W hD hSx ⟨u, hu, hSW, hkW, hR, hE⟩ hK
      rw [hSx] at hSW hu
      have HSW := Lib.hid hSW
      have HKW := Lib.hid hkW
      have HKX := Lib.hid hK
      have HUU := Lib.hid hu
      clear hS5 hk5 e1 e2 b0 b1 b2 hSW hkW hR hE hK hSx hu
      gi_wp2
      refine ⟨by simp, .inl ⟨_, _, rfl, run_takeDeferred HKX.out, ?_⟩⟩
      have hk6 := k2_later HKW.out (grownBy_putObj' W D (.deferred none)) (Nat.le_refl _) (fun r e => by injection e with e; omega)
      have hs6 := HSW.out.grown (grownBy_putObj' W D (.deferred none)) (fun k e => by injection e with e; omega)
      rw [HF.out, HSD.out] at hs6
      exact ⟨_, results_none rfl _ _ _, _, u, rfl, hs6, wsZ_sd HHD.out r (Nat.le_refl _), wsZ_cl HHD.out, HUU.out, K3.of2 hk6⟩
    case stop =>
      rintro D cd pre W hD h
      exact h.elim
end Go.Proofs.Ytijbpafmokbnaaa
