/- The program's slot writes bytes from the beginning of a side. -/
import Derived.Test.YtijbpafmokbnaaaSkt
import Derived.Test.YtijbpafmokbnaaaQti
namespace Go.Proofs.Ytijbpafmokbnaaa
open Go.RowKit Go.Shelf Gw Pol Gq Go.BigFrame
attribute [local go_sem] Oper.semAt_some
theorem lay_eq {ws ws' : Nat → Nat × List Nat} {L : List Nat} : ∀ {d : Nat}, (∀ j, j < d → ws j = ws' j) → lay ws L d = lay ws' L d
  | 0, _ => rfl
  | d + 1, h => by rw [lay_succ, lay_succ, h d (by omega), lay_eq (fun j hj => h j (by omega))]
theorem lay_add (ws : Nat → Nat × List Nat) (L : List Nat) (n : Nat) : ∀ d : Nat, lay ws L (n + d) = lay (fun j => ws (n + j)) (lay ws L n) d
  | 0 => rfl
  | d + 1 => by rw [← Nat.add_assoc, lay_succ, lay_succ, lay_add ws L n d]
/-- The writes of so many bytes onto a side. -/
def wsP (r sd : Nat) (b : List Nat) (j : Nat) : Nat × List Nat := (1 + sd * r + j, blk b j)
/-- Between two rounds. -/
def PuI (w : World) (a p g r sd : Nat) (b L : List Nat) (s : Pw) (pre : List Nat) (W : World) : Prop :=
  Sz W a p g r (lay (wsP r sd b) L pre.length) (Pw.go pre.length s) ∧ Pw.ok pre.length s = true ∧ K2 w W p g ∧ W.heap[w.heap.size]? = some (.cells #[.pointer (some ⟨a, 0, none⟩)] 23 (0, 0)) ∧
    W.heap[w.heap.size + 1]? = some (.cells #[.int .i64 (sd : Int)] 3 (0, 0)) ∧ W.heap[w.heap.size + 2]? = some (.cells #[.int .i64 0] 33 (0, 0))
/-- Where one is not done. -/
def PuX (w : World) (a p g r sd : Nat) (b L : List Nat) (s : Pw) (cd : Code) (_ : List Nat) (W : World) : Prop :=
  cd = .ret ∧ ∃ n, n < tk b.length ∧ Pw.ok n s = true ∧ (Pw.go n s).can = false ∧ Sz W a p g r (lay (wsP r sd b) L n) (Pw.go n s).one ∧ K2 w W p g ∧ W.heap[w.heap.size + 2]? = some (.cells #[.int .i64 3] 33 (0, 0))
theorem k2_later {w A D : World} {p g B : Nat} {row : Option Nat} (h : K2 w A p g) (hg : A.grownBy D row) (hB : w.heap.size ≤ B) (hr : ∀ r, row = some r → B ≤ r) : K2 w D p g :=
  ⟨hg.os.trans h.os, hg.tape.trans h.tape, hg.output.trans h.output, Nat.le_trans h.size hg.size, fun k hk h1 h2 => (hg.block k (Nat.lt_of_lt_of_le hk h.size) (fun e => by have := hr k e.symm; omega)).trans (h.block k hk h1 h2)⟩
theorem heap_later {A D : World} {B k : Nat} {ob : Obj} {row : Option Nat} (h : A.heap[k]? = some ob) (hg : A.grownBy D row) (hB : k < B) (hr : ∀ r, row = some r → B ≤ r) : D.heap[k]? = some ob :=
  (hg.block k (Array.getElem?_eq_some_iff.1 h).1 (fun e => by have := hr k e.symm; omega)).trans h
theorem PuI.own (w : World) (a p g r sd : Nat) (b L : List Nat) (s : Pw) (B : Nat) (hB : w.heap.size + 3 ≤ B) (hl : a < B ∧ p < B ∧ g < B) : OwnFrom B (PuI w a p g r sd b L s) := by
  rintro x A D row ⟨h1, h2, h3, h4, h5, h6⟩ hg hr
  have hr' : ∀ r, row = some r → B ≤ r := fun r e => (hr r e).1
  exact ⟨h1.grown hg (fun k e => by have := hr' k e; omega), h2, k2_later h3 hg (by omega) hr', heap_later h4 hg (by omega) hr', heap_later h5 hg (by omega) hr', heap_later h6 hg (by omega) hr'⟩
theorem PuX.own (w : World) (a p g r sd : Nat) (b L : List Nat) (s : Pw) (cd : Code) (B : Nat) (hB : w.heap.size + 3 ≤ B) (hl : a < B ∧ p < B ∧ g < B) : OwnFrom B (PuX w a p g r sd b L s cd) := by
  rintro x A D row ⟨h1, n, h2, h3, h4, h5, h6, h7⟩ hg hr
  have hr' : ∀ r, row = some r → B ≤ r := fun r e => (hr r e).1
  exact ⟨h1, n, h2, h3, h4, h5.grown hg (fun k e => by have := hr' k e; omega), k2_later h6 hg (by omega) hr', heap_later h7 hg (by omega) hr'⟩
theorem others_k2 {A D : World} {p g : Nat} (h : K2 A D p g) (hp : ∀ o, A.heap[p]? = some o → o.isCells = true) (hg : ∀ o, A.heap[g]? = some o → o.isCells = true) : KeepsOthers A D := ⟨h.size, fun k o hk hc => by
  refine (h.block k (Array.getElem?_eq_some_iff.1 hk).1 (fun e => ?_) (fun e => ?_)).trans hk
  · subst e; rw [hp o hk] at hc; cases hc
  · subst e; rw [hg o hk] at hc; cases hc⟩
theorem Sz.isc {w : World} {a p g r : Nat} {L : List Nat} {s : Pw} (h : Sz w a p g r L s) : (∀ o, w.heap[p]? = some o → o.isCells = true) ∧ (∀ o, w.heap[g]? = some o → o.isCells = true) := by
  obtain ⟨fu, lf, hd, _⟩ := h.2.1
  refine ⟨fun o ho => ?_, fun o ho => ?_⟩
  · have h1 := hd.box
    rw [ho] at h1; injection h1 with h1; rw [h1]; rfl
  · have h1 : w.heap[g]? = _ := hd.row
    rw [ho] at h1; injection h1 with h1; rw [h1]; rfl
set_option maxRecDepth 100000 in
set_option maxHeartbeats 2000000 in
theorem zput_in (a p g r sd m c B : Nat) (L b : List Nat) (s : Pw) (A : Option Addr) (w : World) (h : Sz w a p g r L s) (hsd : sd ≤ 1) (hI : In w B A c b) (hA : ∀ o, b ≠ [] → A ≠ some ⟨p, o, none⟩ ∧ A ≠ some ⟨g, o, none⟩) (hm : m = b.length) (ht : tk m ≤ r) (hr : r ≤ 512) (hu : s.u < 2305843009213693952 + 1024) :
    CallsIn Fence.wide 6 Try.prog 29 #[.pointer (some ⟨a, 0, none⟩), .int .i64 (sd : Int), .slice A m c] w fun e w' => e = .returned (.int .i64 (bif Pw.ok (tk m) s then 0 else 3)) ∧ Sz w' a p g r (lay (wsP r sd b) L (Pw.done (tk m) s)) (Pw.go (tk m) s) ∧ K2 w w' p g := by
  have hlt := h.lt
  have hm2 : m ≤ 16384 := by unfold tk at ht; omega
  obtain ⟨W4, hW4⟩ : ∃ W4, W4 = (((w.alloc (.cells #[.pointer (some ⟨a, 0, none⟩)] 23)).alloc (.cells #[.int .i64 (sd : Int)] 3)).alloc (.cells #[.int .i64 0] 33)).alloc (.cells #[.slice A m c] 28) := ⟨_, rfl⟩
  have hs4 : W4.heap.size = w.heap.size + 4 := by rw [hW4]; simp
  have hb4 : Below w.heap.size w W4 := by rw [hW4]; exact ((((Below.refl _ w).alloc (Nat.le_refl _) _).alloc (by simp) _).alloc (by simp; omega) _).alloc (by simp; omega) _
  have d0 : W4.heap[w.heap.size]? = some (.cells #[.pointer (some ⟨a, 0, none⟩)] 23 (0, 0)) := by
    rw [hW4, Below.heap_alloc _ _ _ (by simp <;> omega), Below.heap_alloc _ _ _ (by simp <;> omega), Below.heap_alloc _ _ _ (by simp)]
    exact heap_alloc_new w _
  have d1 : W4.heap[w.heap.size + 1]? = some (.cells #[.int .i64 (sd : Int)] 3 (0, 0)) := by
    rw [hW4, Below.heap_alloc _ _ _ (by simp <;> omega), Below.heap_alloc _ _ _ (by simp)]
    have := heap_alloc_new (w.alloc (.cells #[.pointer (some ⟨a, 0, none⟩)] 23)) (.cells #[.int .i64 (sd : Int)] 3)
    rwa [World.size_alloc] at this
  have d2 : W4.heap[w.heap.size + 2]? = some (.cells #[.int .i64 0] 33 (0, 0)) := by
    rw [hW4, Below.heap_alloc _ _ _ (by simp)]
    have := heap_alloc_new ((w.alloc (.cells #[.pointer (some ⟨a, 0, none⟩)] 23)).alloc (.cells #[.int .i64 (sd : Int)] 3)) (.cells #[.int .i64 0] 33)
    rwa [World.size_alloc, World.size_alloc] at this
  have d3 : W4.cell? ⟨w.heap.size + 3, 0, none⟩ = some (.slice A m c) := by rw [hW4]; exact zncell _ _ _ _ (by simp)
  have hS4 : Sz W4 a p g r L s := h.below hb4 (Nat.le_refl _)
  have hI4 : In W4 B A c b := (KpP.below (p := p) (g := g) hb4 (Nat.le_refl _)).inn hI hA
  have hk4 : K2 w W4 p g := K2.ofBelow hb4 (Nat.le_refl _)
  have hbb := hI.bb
  obtain ⟨f, hf⟩ : ∃ f, f = 1 + sd * r := ⟨_, rfl⟩
  have hfr : f ≤ 1 + r := by rw [hf]; rcases (by omega : sd = 0 ∨ sd = 1) with e | e <;> rw [e] <;> omega
  obtain ⟨t, htt⟩ : ∃ t, t = tk m := ⟨_, rfl⟩
  have HT := Lib.hid htt
  have HF := Lib.hid hf
  have HM := Lib.hid hm
  have HS4 := Lib.hid hS4
  have HB4 := Lib.hid hb4
  rw [← htt] at ht ⊢
  clear hm hf htt h hI
  have hzz := zero_blk
  refine callsIn_of_wp_marks Try.func29 rfl trivial ?_ rfl
  simp only [Try.ntmps29, List.size_toArray, List.length_cons, List.length_nil, Nat.reduceAdd, Nat.reduceSub, Array.replicate_succ, Array.replicate_zero, List.push_toArray, List.append_toArray, List.nil_append, List.cons_append]
  gi_wp2_with fail
  refine ⟨trivial, ?_⟩
  refine (callsIn_wide.2 (zpieces_mk A m c _)).mono ?_
  rintro e w' ⟨rfl, rfl⟩
  gi_wp2
  simp only [Nat.add_assoc, Nat.reduceAdd]
  rw [← hW4]
  refine Gq.range_memR (by omega) (gf := 43) (lb := #[.pointer (some ⟨w.heap.size + 3, 0, none⟩)]) rfl (enters_of Try.func43 (by kernel_rfl) rfl)
    (zpieces_seq (6 - 1) (by omega) (w.heap.size + 3) p g m c B A b W4 HM.out hm2 hI4 hA d3 (by omega) (by omega) (by omega) (by omega))
    (fun h k => KpP.trans h k) (fun W l o o' _ h hc => KpP.put h hc) (fun _ => rfl) (fun _ _ _ _ _ h _ _ => h)
    (PuI w a p g r sd b L s) (PuX w a p g r sd b L s) (PuI.own w a p g r sd b L s _ (by omega) (by omega)) (fun cd => PuX.own w a p g r sd b L s cd _ (by omega) (by omega))
    ⟨hS4, rfl, hk4, d0, d1, d2⟩
    (fun i a' W => ∃ bb, a' = { tmps := #[.pointer (some ⟨a, 0, none⟩), .int .i64 (sd : Int), .slice A m c, .pointer (some ⟨w.heap.size, 0, none⟩), .pointer (some ⟨w.heap.size + 1, 0, none⟩), undef, .pointer (some ⟨w.heap.size + 2, 0, none⟩), .int .i64 (i : Int), .pointer (some ⟨bb, 0, none⟩), undef, .slice A m c, .func (.func 43) #[] #[.pointer (some ⟨w.heap.size + 3, 0, none⟩)], .int .i64 (i : Int), .agg (bys (blk b i)).toArray, undef, undef, undef, undef, undef, undef, undef, undef, undef, undef, undef, undef, undef, undef], defers := [] } ∧ Bk W bb 58 (blk b i) ∧ w.heap.size + 4 ≤ bb)
    (fun x a' _ A D row ⟨b, h1, h2, h3⟩ hg hr => ⟨b, h1, bk_turned h2 hg (fun r e => (hr r e).2), h3⟩) ?assign ?body ?done ?stop
  case assign =>
    rintro l pre i W K hWs hi hrd hK
    clear hi hrd
    obtain ⟨n1, n2⟩ := blk_new W (blk b i)
    obtain ⟨z1, z2, _⟩ := blk_size (blk_len b i)
    have HNW := Lib.hid (heap_alloc_new W (.cells (bys z32).toArray 58))
    have HKK := Lib.hid (hK _ _ n1 (KpP.below (grown_below n1) (Nat.le_refl _)) ⟨_, rfl, n2, by omega⟩)
    have HZ1 := Lib.hid z1
    have HZ2 := Lib.hid z2
    clear hK n1 n2 z1 z2
    gi_wp2_with (first | (refine wpListIn_store_row rfl 58 (.tmp 8) (.tmp 13) rfl _ (bys (blk b i)).toArray rfl rfl _ _ HNW.out HZ1.out HZ2.out (bysK_one _) ?_) | fail)
    exact HKK.out
  case body =>
    rintro lb pre i a' W ⟨hS, hok, hk, g0, g1, g2⟩ ⟨hi, hit⟩ ⟨bb, rfl, hbk, hbn⟩
    have mixed : Try.prog.follows .mixedOrders = true := by kernel_rfl
    have k0 : W.cell? ⟨w.heap.size, 0, none⟩ = some (.pointer (some ⟨a, 0, none⟩)) := by rw [cell_of_row W _ 0 _ _ (0, 0) g0]; rfl
    have k1 : W.cell? ⟨w.heap.size + 1, 0, none⟩ = some (.int .i64 (sd : Int)) := by rw [cell_of_row W _ 0 _ _ (0, 0) g1]; rfl
    have ka := hS.cell
    rw [← HT.out] at hit
    obtain ⟨Ln, hLn⟩ : ∃ Ln, Ln = lay (wsP r sd b) L pre.length := ⟨_, rfl⟩
    obtain ⟨sn, hsn⟩ : ∃ sn, sn = Pw.go pre.length s := ⟨_, rfl⟩
    rw [← hLn, ← hsn] at hS
    have hsu : sn.u < 4611686018427387904 := by rw [hsn]; have := (Pw.go_u pre.length s).1; omega
    have hsl : Sl W W.heap.size (some ⟨bb, 0, none⟩) (blk b i) := by
      have := hbk.sl (blk_bb hbb i) 0 32
      rwa [List.drop_zero, List.take_of_length_le (by rw [blk_len]; omega)] at this
    obtain ⟨q, hq⟩ : ∃ q, q = f + i := ⟨_, rfl⟩
    have hqw : IntKind.i64.wrap ((f : Int) + (i : Int)) = (q : Int) := by rw [IntKind.wrap_i64]; omega
    have hqr : q < 1 + 2 * r := by omega
    have HQ := Lib.hid hq
    have HLN := Lib.hid hLn
    have HSN := Lib.hid hsn
    have HS := Lib.hid hS
    have HOK := Lib.hid hok
    have HK := Lib.hid hk
    have HI := Lib.hid hi
    have HSL := Lib.hid hsl
    have HG := Lib.hid (And.intro g0 (And.intro g1 g2))
    clear hS4 hb4 hI4 hk4 d0 d1 d2 d3 hS hok hk g0 g1 g2 hi hbk hLn hsn hsl hq
    gi_wp2
    refine Gq.region_round 10 mixed (by kernel_rfl) (by kernel_rfl) ?_
    simp only [List.take_succ_cons, List.take_zero, List.drop_succ_cons, List.drop_zero]
    repeat (go_big_quiet_step ((go_at_call 34; exact Calls.quiet_of_same (zfirst_f a p g r sd f _ _ _ HF.out (HS.out.drewN _) hsd))))
    refine wpQuiet_nil ?_
    intro _ hw'
    obtain ⟨nq, hw''⟩ := hw'
    subst hw''
    gi_wp2_with fail
    refine ⟨trivial, ?_⟩
    refine (CallsIn.inRound lb (callsIn_wide.2 (dz_write p g (1 + 2 * r) Ln sn sn.one sn.can q (some ⟨bb, 0, none⟩) 32 W.heap.size (blk b i) (W.drewN nq) (HS.out.drewN nq).dz rfl rfl hqr HSL.out (fun o e => by injection e with e; injection e with e; omega) (blk_len b i) hsu))).mono ?_
    rintro e W5 ⟨rfl, hd5, hk5⟩
    have hk5' : K2 W W5 p g := ⟨hk5.os, hk5.tape, hk5.output, hk5.size, hk5.block⟩
    have hS5 := HS.out.turned hk5' hd5
    have hko : KeepsOthers W W5 := others_k2 hk5' HS.out.isc.1 HS.out.isc.2
    have g0 : W5.heap[w.heap.size]? = some (.cells #[.pointer (some ⟨a, 0, none⟩)] 23 (0, 0)) := (hk5'.block _ (Array.getElem?_eq_some_iff.1 HG.out.1).1 (by omega) (by omega)).trans HG.out.1
    have g1 : W5.heap[w.heap.size + 1]? = some (.cells #[.int .i64 (sd : Int)] 3 (0, 0)) := (hk5'.block _ (Array.getElem?_eq_some_iff.1 HG.out.2.1).1 (by omega) (by omega)).trans HG.out.2.1
    have g2 : W5.heap[w.heap.size + 2]? = some (.cells #[.int .i64 0] 33 (0, 0)) := (hk5'.block _ (Array.getElem?_eq_some_iff.1 HG.out.2.2).1 (by omega) (by omega)).trans HG.out.2.2
    have HKK := Lib.hid hk5'
    have HS5 := Lib.hid hS5
    have HKO := Lib.hid hko
    have HG5 := Lib.hid (And.intro g0 (And.intro g1 g2))
    clear hd5 hk5 hk5' hS5 hko k0 k1 ka
    obtain ⟨cn, hcn⟩ : ∃ cn, cn = sn.can := ⟨_, rfl⟩
    have HCN := Lib.hid hcn
    rw [← hcn] at HS5 ⊢
    clear hcn g0 g1
    cases cn with
    | true =>
      clear g2
      gi_wp2
      have hl : (pre ++ [i]).length = pre.length + 1 := by rw [List.length_append]; rfl
      refine ⟨HKO.out, KpP.disk HKK.out, ?_, ?_, HK.out.trans HKK.out (.inl rfl), HG5.out⟩
      · have h1 := HS5.out
        rw [HLN.out, HSN.out] at h1
        have hws : wsP r sd b pre.length = (q, blk b pre.length) := by
          show (1 + sd * r + pre.length, blk b pre.length) = _
          rw [← HF.out, ← HI.out, ← HQ.out]
        rw [hl, lay_succ, Pw.go_snoc _ _ HOK.out, hws]
        rw [HI.out] at h1
        exact h1
      · rw [hl, Pw.ok_snoc, HOK.out, ← HSN.out, ← HCN.out]; rfl
    | false =>
      have c2 : W5.cell? ⟨w.heap.size + 2, 0, none⟩ = some (.int .i64 0) := by rw [cell_of_row W5 _ 0 _ _ (0, 0) g2]; rfl
      have f2 : W5.frozen? ⟨w.heap.size + 2, 0, none⟩ = false := frozen_of g2
      clear g2
      gi_wp2
      have hs5 := HS5.out.lt
      refine ⟨HKO.out.trans (KeepsOthers.setCell _ _ _), rfl, pre.length, ?_, HOK.out, ?_, ?_, ?_, ?_⟩
      · rw [← HM.out, ← HT.out, ← HI.out]; exact hit
      · rw [← HSN.out, ← HCN.out]
      · have h1 := HS5.out.k2 (K2.set W5 (w.heap.size + 2) (w.heap.size + 2) 0 (.int .i64 3)) (by omega) (by omega)
        rw [HLN.out, HSN.out] at h1
        exact h1
      · exact k2_later (HK.out.trans HKK.out (.inl rfl)) (grownBy_setCell' W5 (w.heap.size + 2) _) (Nat.le_refl _) (fun r e => by injection e with e; omega)
      · exact heap_set_same HG5.out.2.2
  case done =>
    rintro D pre W hD hS ⟨hSz, hok, hk, g0, g1, g2⟩ hK
    have c2 : W.cell? ⟨w.heap.size + 2, 0, none⟩ = some (.int .i64 0) := by rw [cell_of_row W _ 0 _ _ (0, 0) g2]; rfl
    have f2 : W.frozen? ⟨w.heap.size + 2, 0, none⟩ = false := frozen_of g2
    rw [hS, ← HT.out] at hSz hok
    have HSZ := Lib.hid hSz
    have HOK := Lib.hid hok
    have HKX := Lib.hid hK
    have HK := Lib.hid hk
    clear hS4 hb4 hI4 hk4 d0 d1 d2 d3 hSz hok hS g0 g1 g2 hK hk
    gi_wp2
    have hK3 : (W.setCell ⟨w.heap.size + 2, 0, none⟩ (.int .i64 0)).heap[D]? = some (.deferred (some [])) := (heap_set_other W _ _ _ _ (by omega)).trans HKX.out
    refine ⟨by simp, .inl ⟨_, _, rfl, run_takeDeferred hK3, ?_⟩⟩
    have hk2 := k2_later (k2_later HK.out (grownBy_setCell' W (w.heap.size + 2) (.int .i64 0)) (Nat.le_refl _) (fun r e => by injection e with e; omega)) (grownBy_putObj' _ D (.deferred none)) (Nat.le_refl _) (fun r e => by injection e with e; omega)
    have hs2 := (HSZ.out.k2 (K2.set W (w.heap.size + 2) (w.heap.size + 2) 0 (.int .i64 0)) (by omega) (by omega)).grown (grownBy_putObj' _ D (.deferred none)) (fun k e => by injection e with e; omega)
    refine ⟨_, results_cell1 rfl _ _ rfl (load_plain 33 (fun w => by kernel_rfl) (v := .int .i64 0) ?_), ?_, ?_, hk2⟩
    · rw [World.cell?_of_block (w := W.setCell ⟨w.heap.size + 2, 0, none⟩ (.int .i64 0)) (a := ⟨w.heap.size + 2, 0, none⟩) (World.putObj_heap_other (by show w.heap.size + 2 ≠ D; omega))]
      exact World.cell?_setCell_same W ⟨w.heap.size + 2, 0, none⟩ _ c2
    · rw [HOK.out]; rfl
    · rw [Pw.done_ok _ _ HOK.out]; exact hs2
  case stop =>
    rintro D cd pre W hD ⟨rfl, n, hn, hok, hcan, hSz, hk, g2⟩ hK
    have c2 : W.cell? ⟨w.heap.size + 2, 0, none⟩ = some (.int .i64 3) := by rw [cell_of_row W _ 0 _ _ (0, 0) g2]; rfl
    rw [← HM.out, ← HT.out] at hn
    have hst := Pw.stops n (t - n - 1) s hok hcan
    have hdo := Pw.done_stops n (t - n - 1) s hok hcan
    rw [show n + 1 + (t - n - 1) = t by omega] at hst hdo
    have HSZ := Lib.hid hSz
    have HKX := Lib.hid hK
    have HK := Lib.hid hk
    have HST := Lib.hid hst
    have HDO := Lib.hid hdo
    clear hS4 hb4 hI4 hk4 d0 d1 d2 d3 hSz hok hK hk hst hdo hcan
    gi_wp2
    refine ⟨by simp, .inl ⟨_, _, rfl, run_takeDeferred HKX.out, ?_⟩⟩
    have hk2 := k2_later HK.out (grownBy_putObj' _ D (.deferred none)) (Nat.le_refl _) (fun r e => by injection e with e; omega)
    have hs2 := HSZ.out.grown (grownBy_putObj' _ D (.deferred none)) (fun k e => by injection e with e; omega)
    refine ⟨_, results_cell1 rfl _ _ rfl (load_plain 33 (fun w => by kernel_rfl) (v := .int .i64 3) ?_), ?_, ?_, hk2⟩
    · rw [World.cell?_of_block (w := W) (a := ⟨w.heap.size + 2, 0, none⟩) (World.putObj_heap_other (by show w.heap.size + 2 ≠ D; omega))]
      exact c2
    · rw [HST.out.2]; rfl
    · rw [HDO.out, HST.out.1]; exact hs2
theorem zput_any (a p g r sd m c B : Nat) (L b : List Nat) (s : Pw) (A : Option Addr) (w : World) (h : Sz w a p g r L s) (hsd : sd ≤ 1) (hI : In w B A c b) (hA : ∀ o, b ≠ [] → A ≠ some ⟨p, o, none⟩ ∧ A ≠ some ⟨g, o, none⟩) (hm : m = b.length) (ht : tk m ≤ r) (hr : r ≤ 512) (hu : s.u < 2305843009213693952 + 1024) :
    Calls Try.prog 29 #[.pointer (some ⟨a, 0, none⟩), .int .i64 (sd : Int), .slice A m c] w fun e w' => e = .returned (.int .i64 (bif Pw.ok (tk m) s then 0 else 3)) ∧ Sz w' a p g r (lay (wsP r sd b) L (Pw.done (tk m) s)) (Pw.go (tk m) s) ∧ K2 w w' p g :=
  callsIn_wide.1 (zput_in a p g r sd m c B L b s A w h hsd hI hA hm ht hr hu)
end Go.Proofs.Ytijbpafmokbnaaa
