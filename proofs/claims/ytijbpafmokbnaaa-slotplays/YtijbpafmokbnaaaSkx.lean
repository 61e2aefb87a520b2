/- The program's slot: Load. -/
import Derived.Test.YtijbpafmokbnaaaSkw
import Derived.Test.YtijbpafmokbnaaaGtk
namespace Go.Proofs.Ytijbpafmokbnaaa
open Go.RowKit Go.Shelf Gw Pol Gq Go.BigFrame
attribute [local go_sem] Oper.semAt_some
/-- The blocks of a slot's disk from f on, k of them, as a function. -/
def FnIs (base a f k : Nat) : Value → World → Prop := fun v w => ∃ q, base ≤ q ∧ v = .func (.func 42) #[] #[.pointer (some ⟨q + 1, 0, none⟩), .pointer (some ⟨q + 2, 0, none⟩), .pointer (some ⟨q, 0, none⟩)] ∧
  w.cell? ⟨q, 0, none⟩ = some (.pointer (some ⟨a, 0, none⟩)) ∧ w.cell? ⟨q + 1, 0, none⟩ = some (.int .i64 (f : Int)) ∧ w.cell? ⟨q + 2, 0, none⟩ = some (.int .i64 (k : Int))
theorem FnIs.mono (base a f k : Nat) : Gt.Mono (FnIs base a f k) := by
  rintro v w w' ⟨q, h0, h1, h2, h3, h4⟩ hg
  have key : ∀ p u, w.cell? ⟨p, 0, none⟩ = some u → w'.cell? ⟨p, 0, none⟩ = some u := fun p u h => (Below.cell hg (p := ⟨p, 0, none⟩) (cell_lt h)).trans h
  exact ⟨q, h0, h1, key _ _ h2, key _ _ h3, key _ _ h4⟩
theorem zblocks_is (a f k : Nat) (w : World) (B : Nat) (hB : B ≤ w.heap.size) :
    Calls Try.prog 33 #[.pointer (some ⟨a, 0, none⟩), .int .i64 (f : Int), .int .i64 (k : Int)] w fun e w' => ∃ v, e = .returned v ∧ Gt.Gr w w' ∧ FnIs B a f k v w' := by
  refine (zblocks_mk a f k w).mono ?_
  rintro e w' ⟨rfl, rfl⟩
  refine ⟨_, rfl, ?_, w.heap.size, hB, rfl, ?_, ?_, ?_⟩
  · exact (((Below.refl _ w).alloc (Nat.le_refl _) _).alloc (by simp) _).alloc (by simp; omega) _
  · exact zocell (zocell (zncell _ _ _ _ rfl) _) _
  · exact zocell (zncell _ _ _ _ (by simp)) _
  · exact zncell _ _ _ _ (by simp)
/-- What is there behind j blocks: K's bytes so far, then noughts. -/
def kpt (K : List Nat) (j : Nat) : List Nat := (List.range K.length).map fun t => if t < 32 * j then co K t else 0
theorem kpt_len (K : List Nat) (j : Nat) : (kpt K j).length = K.length := by unfold kpt; simp
theorem co_kpt {K : List Nat} {j t : Nat} (h : t < K.length) : co (kpt K j) t = if t < 32 * j then co K t else 0 := by
  unfold kpt
  rw [co_def, List.getElem?_map, List.getElem?_range h]; rfl
theorem ext_co {a b : List Nat} (h : a.length = b.length) (hc : ∀ t, t < a.length → co a t = co b t) : a = b := by
  apply List.ext_getElem h
  intro t h1 h2
  have := hc t h1
  rwa [co_get h1, co_get h2] at this
theorem kpt_zero (K : List Nat) : kpt K 0 = List.replicate K.length 0 :=
  ext_co (by rw [kpt_len]; simp) fun t ht => by rw [co_kpt (by rwa [kpt_len] at ht), if_neg (by omega), co_zeros]
theorem kpt_all {K : List Nat} {j : Nat} (h : K.length ≤ 32 * j) : kpt K j = K :=
  ext_co (kpt_len _ _) fun t ht => by rw [kpt_len] at ht; rw [co_kpt ht, if_pos (by omega)]
theorem kpt_bb {K : List Nat} (h : BB K) (j : Nat) : BB (kpt K j) := fun x hx => by
  obtain ⟨t, _, rfl⟩ := List.mem_map.1 hx
  show (if t < 32 * j then co K t else 0) < 256
  split
  · exact h.co t
  · omega
theorem kpt_step {K : List Nat} {j : Nat} (h : 32 * j < K.length) : laid (kpt K j) (32 * j) ((blk K j).take (K.length - 32 * j)) = kpt K (j + 1) := by
  have hl : ((blk K j).take (K.length - 32 * j)).length = min (K.length - 32 * j) 32 := by rw [List.length_take, blk_len]
  refine ext_co (by rw [laid_len (by rw [hl, kpt_len]; omega), kpt_len, kpt_len]) fun t ht => ?_
  rw [laid_len (by rw [hl, kpt_len]; omega), kpt_len] at ht
  rw [co_laid t (by rw [hl, kpt_len]; omega), hl, co_kpt ht, co_kpt ht]
  by_cases c : 32 * j ≤ t ∧ t < 32 * j + min (K.length - 32 * j) 32
  · rw [if_pos c, if_pos (by omega), co_def, List.getElem?_take, if_pos (by omega), ← co_def, co_blk K j _ (by omega)]
    congr 1
    omega
  · rw [if_neg c]
    by_cases c2 : t < 32 * j
    · rw [if_pos c2, if_pos (by omega)]
    · rw [if_neg c2, if_neg (by omega)]
/-- Between two rounds: G is where the bytes are kept, R where the rest is told. -/
def LoI (w : World) (a p g r G R : Nat) (K L : List Nat) (s : Pw) (pre : List (Nat × List Nat)) (W : World) : Prop :=
  Sz W a p g r L s ∧ Below w.heap.size w W ∧ Bk W G 5 (kpt K pre.length) ∧ ∃ v, W.heap[R]? = some (.cells #[v] 28 (0, 0)) ∧ (32 * pre.length < K.length → v = .slice (some ⟨G, 32 * pre.length, none⟩) (K.length - 32 * pre.length) (K.length - 32 * pre.length))
theorem below_later {w A D : World} {B n : Nat} {row : Option Nat} (h : Below n w A) (hg : A.grownBy D row) (hn : n ≤ w.heap.size) (hB : n ≤ B) (hr : ∀ r, row = some r → B ≤ r) : Below n w D :=
  ⟨hg.os.trans h.os, hg.tape.trans h.tape, hg.output.trans h.output, Nat.le_trans h.size hg.size, fun k hk => (hg.block k (Nat.lt_of_lt_of_le (Nat.lt_of_lt_of_le hk hn) h.size) (fun e => by have := hr k e.symm; omega)).trans (h.block k hk)⟩
theorem LoI.own (w : World) (a p g r G R : Nat) (K L : List Nat) (s : Pw) (B : Nat) (hB : w.heap.size ≤ B) (hl : a < B ∧ p < B ∧ g < B ∧ G < B ∧ R < B) : OwnFrom B (LoI w a p g r G R K L s) := by
  rintro x A D row ⟨h1, h2, h3, v, h4, h5⟩ hg hr
  have hr' : ∀ r, row = some r → B ≤ r := fun r e => (hr r e).1
  exact ⟨h1.grown hg (fun k e => by have := hr' k e; omega), below_later h2 hg (Nat.le_refl _) hB hr', heap_later h3 hg (by omega) hr', v, heap_later h4 hg (by omega) hr', h5⟩
set_option maxRecDepth 100000 in
set_option maxHeartbeats 2000000 in
theorem zload_in (a p g r side : Nat) (L K : List Nat) (s : Pw) (w : World) (h : Sz w a p g r L s) (hd : Sd r L side K) (hKb : BB K) :
    CallsIn Fence.wide 6 Try.prog 16 #[.pointer (some ⟨a, 0, none⟩)] w fun e w' => ∃ A c, e = .returned (.slice A K.length c) ∧ In w' w'.heap.size A c K ∧ Below w.heap.size w w' := by
  have hfew := hd.few
  have h2 := hd.two
  have hfit := hd.fit
  have hHD := Lib.hid hd
  obtain ⟨n, hn⟩ : ∃ n, n = K.length := ⟨_, rfl⟩
  obtain ⟨k, hk⟩ : ∃ k, k = tk n := ⟨_, rfl⟩
  have hkr : k ≤ r := by rw [hk, tk_le]; omega
  have hk32 : n ≤ 32 * k := by rw [hk]; unfold tk; omega
  have hk33 : 32 * k < n + 32 := by rw [hk]; unfold tk; omega
  have hn2 : n ≤ 32 * r := by omega
  obtain ⟨f, hf⟩ : ∃ f, f = 1 + side * r := ⟨_, rfl⟩
  have hfr : f ≤ 1 + r := by rw [hf]; rcases (by omega : side = 0 ∨ side = 1) with e | e <;> rw [e] <;> omega
  have hblk : ∀ j, j < k → piece L (f + j) = blk K j := fun j hj => by rw [hf]; exact hd.block (by omega)
  have HR := Lib.hid (zroot_any a p g r side L K s w h hd)
  rw [← hn] at HR ⊢
  have HBL := Lib.hid hblk
  have HN := Lib.hid hn
  have HK := Lib.hid hk
  have HF := Lib.hid hf
  have HS := Lib.hid h
  have hmk := run_make_row' (P := Try.prog) 28 5 (.int .u8 0) 1 Try.underlying28 pbyte_info rfl .i64 .i64 n (by omega) (by omega)
  have hzz := zero_blk
  clear h hd hn hk hf hfit hblk
  refine callsIn_of_wp_marks Try.func16 rfl trivial ?_ rfl
  simp only [Try.ntmps16, List.size_toArray, List.length_cons, List.length_nil, Nat.reduceAdd, Nat.reduceSub, Array.replicate_succ, Array.replicate_zero, List.push_toArray, List.append_toArray, List.nil_append, List.cons_append]
  gi_wp2_with fail
  refine ⟨trivial, ?_⟩
  refine (callsIn_wide.2 HR.out).mono ?_
  rintro e w1 ⟨rfl, hb1⟩
  have hS1 := HS.out.below hb1 (Nat.le_refl _)
  have hlt1 := HS.out.lt
  have hsz1 := hb1.size
  gi_wp2
  obtain ⟨W3, hW3⟩ : ∃ W3, W3 = ((w1.alloc (.cells #[.int .i64 (side : Int), .int .i64 (n : Int)] 54)).alloc (.cells (madeCells #[.int .u8 0] n) 5)).alloc (.cells #[.slice (some ⟨w1.heap.size + 1, 0, none⟩) n n] 28) := ⟨_, rfl⟩
  rw [← hW3]
  have hs3 : W3.heap.size = w1.heap.size + 3 := by rw [hW3]; simp
  have hb3 : Below w1.heap.size w1 W3 := by rw [hW3]; exact (((Below.refl _ w1).alloc (Nat.le_refl _) _).alloc (by simp) _).alloc (by simp; omega) _
  have d0 : W3.heap[w1.heap.size]? = some (.cells #[.int .i64 (side : Int), .int .i64 (n : Int)] 54 (0, 0)) := by
    rw [hW3, Below.heap_alloc _ _ _ (by simp <;> omega), Below.heap_alloc _ _ _ (by simp)]
    exact heap_alloc_new w1 _
  have d1 : Bk W3 (w1.heap.size + 1) 5 (kpt K 0) := by
    have h1 := heap_alloc_new (w1.alloc (.cells #[.int .i64 (side : Int), .int .i64 (n : Int)] 54)) (.cells (madeCells #[.int .u8 0] n) 5)
    rw [World.size_alloc] at h1
    unfold Bk
    rw [hW3, Below.heap_alloc _ _ _ (by simp), h1, kpt_zero, ← HN.out]
    exact congrArg (fun X => some (Obj.cells X 5 (0, 0))) (made_k 1 n (by omega))
  have d2 : W3.heap[w1.heap.size + 2]? = some (.cells #[.slice (some ⟨w1.heap.size + 1, 0, none⟩) n n] 28 (0, 0)) := by
    have h1 := heap_alloc_new ((w1.alloc (.cells #[.int .i64 (side : Int), .int .i64 (n : Int)] 54)).alloc (.cells (madeCells #[.int .u8 0] n) 5)) (.cells #[.slice (some ⟨w1.heap.size + 1, 0, none⟩) n n] 28)
    rw [World.size_alloc, World.size_alloc] at h1
    rw [hW3]; exact h1
  have HC := Lib.hid (show W3.cell? ⟨w1.heap.size, 0, none⟩ = some (.int .i64 (side : Int)) ∧ W3.cell? ⟨w1.heap.size, 1, none⟩ = some (.int .i64 (n : Int)) from ⟨by rw [cell_of_row W3 _ 0 _ _ (0, 0) d0]; rfl, by rw [cell_of_row W3 _ 1 _ _ (0, 0) d0]; rfl⟩)
  have HS3 := Lib.hid (hS1.below hb3 (Nat.le_refl _))
  have HB3 := Lib.hid (hb1.trans (hb3.mono hb1.size))
  have HD1 := Lib.hid d1
  have HD2 := Lib.hid d2
  clear hW3 hb3 d0 d1 d2 hS1 hb1 HR hmk
  refine Gt.regionJF (fun w5 => Below W3.heap.size W3 w5) [] [Gt.Is (.pointer (some ⟨a, 0, none⟩)), Gt.Is (.pointer (some ⟨a, 0, none⟩)), Gt.Is (.pointer (some ⟨w1.heap.size, 0, none⟩)), Gt.Is (.int .i64 (side : Int)), Gt.Is (.int .i64 (f : Int)), Gt.Is (.pointer (some ⟨w1.heap.size, 1, none⟩)), Gt.Is (.int .i64 (n : Int)), Gt.Is (.int .i64 (k : Int)), FnIs W3.heap.size a f k] 33 9
    [⟨[], [0], none⟩, ⟨[], [0], none⟩, ⟨[], [3], none⟩, ⟨[(2, 18)], [], none⟩, ⟨[(1, 17), (3, 19)], [], none⟩, ⟨[], [3], none⟩, ⟨[(5, 21)], [], none⟩, ⟨[(6, 22)], [], none⟩, ⟨[(0, 16), (4, 20), (7, 23)], [], none⟩]
    [(0, 16), (1, 17), (2, 18), (3, 19), (4, 20), (5, 21), (6, 22), (7, 23), (8, 24)] (by kernel_rfl) (by kernel_rfl) (by kernel_rfl) (by kernel_rfl) (by kernel_rfl) (by kernel_rfl) ?_ ?_ ?_ ?_ ?_
  · refine Gt.Laws.grow (fun w5 w6 h5 h6 => h5.trans (Below.mono h6 (Below.size h5))) ?_
    simp only [Gt.Monos]
    repeat' apply And.intro
    all_goals (first | exact trivial | exact Gt.Is.mono _ | exact FnIs.mono _ _ _ _)
  · exact (Below.refl _ W3).drew
  · intro x5 hx5
    cases hx5
  · simp only [List.take_succ_cons, List.take_zero, Gt.ObsJ]
    repeat' apply And.intro
    all_goals try exact trivial
    all_goals (
      intro aa w5 hS _
      have hS' : Below W3.heap.size W3 w5 := hS
      have q0 := (hS'.cell (p := ⟨w1.heap.size, 0, none⟩) (cell_lt HC.out.1)).trans HC.out.1
      have q1 := (hS'.cell (p := ⟨w1.heap.size, 1, none⟩) (cell_lt HC.out.2)).trans HC.out.2
      have hSZ5 := HS3.out.below hS' (Nat.le_refl _)
      simp only [Gt.Pre, Gt.Kept, Gt.Guarded, Gt.tys, List.getD_cons_zero, List.getD_cons_succ, Gt.Is, Nat.zero_add, Nat.reduceAdd]
      intros)
    all_goals (first
      | exact Gt.ok_move rfl (by assumption)
      | (refine Gt.ok_call (f := 34) rfl #[.pointer (some ⟨a, 0, none⟩), .int .i64 (side : Int)] (by kernel_rfl) (by simp [*]) ((zfirst_f a p g r side f L s w5 HF.out hSZ5 h2).mono ?_)
         rintro e w6 ⟨rfl, rfl⟩
         exact ⟨_, rfl, Below.refl _ _, rfl⟩)
      | (refine Gt.ok_call (f := 37) rfl #[.int .i64 (n : Int)] (by kernel_rfl) (by simp [*]) ((ztakes_any n (by omega) w5).mono ?_)
         rintro e w6 ⟨rfl, rfl⟩
         exact ⟨_, rfl, Below.refl _ _, by rw [← HK.out]; rfl⟩)
      | (exact Gt.ok_call (f := 33) rfl #[.pointer (some ⟨a, 0, none⟩), .int .i64 (f : Int), .int .i64 (k : Int)] (by kernel_rfl) (by simp [*]) (zblocks_is a f k w5 W3.heap.size hS'.size))
      | (refine Gt.ok_run ?_ rfl
         simp only [execOp, *]
         go_simp
         done))
  · intro aa w5 hS
    have hS' : Below W3.heap.size W3 w5 := hS
    simp only [Gt.Pre, Gt.tys, List.getD_cons_zero, List.getD_cons_succ, Gt.Is]
    intro h0 h1 h2' h3 h4 h5 h6 h7 h8
    obtain ⟨q, hq, h8, b0, b1, b2⟩ := h8
    simp only [Gt.puts, List.foldl_cons, List.foldl_nil, h0, h1, h2', h3, h4, h5, h6, h7, h8]
    simp only [Act.put, List.setIfInBounds_toArray, List.set_cons_zero, List.set_cons_succ, List.drop_succ_cons, List.drop_zero]
    gi_wp2
    simp only [Nat.add_assoc, Nat.reduceAdd]
    clear h0 h1 h2' h3 h4 h5 h6 h7 h8
    have hs5 := hS'.size
    have hb5 : Below w.heap.size w w5 := HB3.out.trans (hS'.mono (by omega))
    have hS5 := HS3.out.below hS' (Nat.le_refl _)
    have e1 := HD1.out.keep (hS'.block _ HD1.out.lt)
    have e2 := (hS'.block _ (Array.getElem?_eq_some_iff.1 HD2.out).1).trans HD2.out
    have hq2 : q + 2 < w5.heap.size := cell_lt b2
    clear hS' hS HS3 HB3 HD1 HD2
    refine Gq.range_memR (by omega) (gf := 42) (lb := #[.pointer (some ⟨q + 1, 0, none⟩), .pointer (some ⟨q + 2, 0, none⟩), .pointer (some ⟨q, 0, none⟩)]) rfl (enters_of Try.func42 (by kernel_rfl) rfl)
      (zblocks_seq (6 - 1) (by omega) q a p g r f k L s w5 hS5 (by omega) b0 b1 b2)
      (fun h k => KpB.trans h k) (fun W l o o' hl _ _ => KpB.put (by omega)) (fun _ => rfl) (ZRd.own a p g r f k _ (by omega))
      (LoI w a p g r (w1.heap.size + 1) (w1.heap.size + 2) K L s) (fun _ _ _ => False) (LoI.own w a p g r _ _ K L s _ (by omega) (by omega)) (fun _ => fun _ _ _ _ h _ _ => h)
      ⟨hS5, hb5, e1, _, e2, fun _ => by rw [← HN.out]; rfl⟩
      (fun x a' W => ∃ bb, a' = { tmps := #[.pointer (some ⟨a, 0, none⟩), undef, .slice none 0 0, .pointer (some ⟨w1.heap.size, 0, none⟩), .slice (some ⟨w1.heap.size + 1, 0, none⟩) n n, .pointer (some ⟨w1.heap.size + 2, 0, none⟩), undef, .pointer (some ⟨bb, 0, none⟩), .pointer (some ⟨a, 0, none⟩), .bool false, .pointer (some ⟨a, 0, none⟩), .agg #[.int .i64 (side : Int), .int .i64 (n : Int)], .pointer (some ⟨w1.heap.size, 1, none⟩), .int .i64 (n : Int), .slice (some ⟨w1.heap.size + 1, 0, none⟩) n n, .slice (some ⟨w1.heap.size + 1, 0, none⟩) n n, .pointer (some ⟨a, 0, none⟩), .pointer (some ⟨a, 0, none⟩), .pointer (some ⟨w1.heap.size, 0, none⟩), .int .i64 (side : Int), .int .i64 (f : Int), .pointer (some ⟨w1.heap.size, 1, none⟩), .int .i64 (n : Int), .int .i64 (k : Int), .func (.func 42) #[] #[.pointer (some ⟨q + 1, 0, none⟩), .pointer (some ⟨q + 2, 0, none⟩), .pointer (some ⟨q, 0, none⟩)], .int .i64 (x.1 : Int), .agg (bys x.2).toArray, undef, undef, undef, undef, undef, undef], defers := [] } ∧ Bk W bb 58 x.2 ∧ w5.heap.size ≤ bb)
      (fun x a' _ A D row ⟨b, h1, h2, h3⟩ hg hr => ⟨b, h1, bk_turned h2 hg (fun r e => (hr r e).2), h3⟩) ?assign ?body ?done ?stop
    case assign =>
      rintro l pre x W K hWs hi hrd hK
      have h32 := hrd.2.2.1
      clear hrd hi
      obtain ⟨n1, n2⟩ := blk_new W x.2
      obtain ⟨z1, z2, _⟩ := blk_size h32
      have HNW := Lib.hid (heap_alloc_new W (.cells (bys z32).toArray 58))
      have HKK := Lib.hid (hK _ _ n1 (KpB.below (grown_below n1) (Nat.le_refl _) (by omega)) ⟨_, rfl, n2, hWs⟩)
      have HZ1 := Lib.hid z1
      have HZ2 := Lib.hid z2
      clear hK n1 n2 z1 z2
      gi_wp2_with (first | (refine wpListIn_store_row rfl 58 (.tmp 7) (.tmp 26) rfl _ (bys x.2).toArray rfl rfl _ _ HNW.out HZ1.out HZ2.out (bysK_one _) ?_) | fail)
      exact HKK.out
    case body =>
      rintro lb pre ⟨nn, bl⟩ aa W ⟨hSW, hBW, hG, v, hR, hv⟩ ⟨hx1, hpc, h32, L', s', hS2, hx2⟩ ⟨bb, rfl, hbk, hbn⟩
      have mixed : Try.prog.follows .mixedOrders = true := by kernel_rfl
      obtain rfl : L = L' := hSW.one hS2
      have hx1 : nn = f + pre.length := hx1
      have hx2 : bl = piece L nn := hx2
      rw [hx1, HBL.out _ hpc] at hx2
      subst hx2
      have hWs : w5.heap.size < W.heap.size := Nat.lt_of_le_of_lt hbn (Bk.lt hbk)
      obtain ⟨j, hj⟩ : ∃ j, j = pre.length := ⟨_, rfl⟩
      rw [← hj] at hpc hG hv hbk
      have hjn : 32 * j < n := by omega
      have hv' := hv (by rw [← HN.out]; exact hjn)
      rw [← HN.out] at hv'
      subst hv'
      obtain ⟨o, ho⟩ : ∃ o, o = 32 * j := ⟨_, rfl⟩
      obtain ⟨d, hd⟩ : ∃ d, d = n - o := ⟨_, rfl⟩
      rw [← ho, ← hd] at hR
      have c5 : W.cell? ⟨w1.heap.size + 2, 0, none⟩ = some (.slice (some ⟨w1.heap.size + 1, o, none⟩) d d) := by rw [cell_of_row W _ 0 _ _ (0, 0) hR]; rfl
      have hsl : Sl W W.heap.size (some ⟨bb, 0, none⟩) (blk K j) := by
        have := hbk.sl (blk_bb hKb j) 0 32
        rwa [List.drop_zero, List.take_of_length_le (by show (blk K j).length ≤ 32; rw [blk_len]; omega)] at this
      have HSL := Lib.hid hsl
      have HG := Lib.hid hG
      have HRR := Lib.hid hR
      have HSW := Lib.hid hSW
      have HBW := Lib.hid hBW
      have HO := Lib.hid ho
      have HD := Lib.hid hd
      have HJ := Lib.hid hj
      clear hS5 hb5 e1 e2 b0 b1 b2 hSW hS2 hBW hG hR hv hsl hbk hx1 h32 ho hd hj
      have hod : o + d ≤ (kpt K j).length := by rw [kpt_len, ← HN.out]; have := HO.out; have := HD.out; omega
      obtain ⟨w6, hcp, hk6, hg6⟩ := run_copyM (P := Try.prog) (w := W.drew) 28 3 5 Try.underlying28 (by kernel_rfl) (w1.heap.size + 1) o d d 32 32 HSL.out HG.out (blk_len K j).symm hod
      have hst : laid (kpt K j) o ((blk K j).take d) = kpt K (j + 1) := by rw [HD.out, HO.out, HN.out]; exact kpt_step (by rw [← HN.out]; exact hjn)
      rw [hst] at hk6
      have r6 := (hg6.block (w1.heap.size + 2) (Array.getElem?_eq_some_iff.1 HRR.out).1 (fun e => by injection e with e; omega)).trans HRR.out
      have c6 : w6.cell? ⟨w1.heap.size + 2, 0, none⟩ = some (.slice (some ⟨w1.heap.size + 1, o, none⟩) d d) := by rw [cell_of_row w6 _ 0 _ _ (0, 0) r6]; rfl
      have f6 : w6.frozen? ⟨w1.heap.size + 2, 0, none⟩ = false := frozen_of r6
      have hsz6 := hg6.size
      have hko : KeepsOthers W w6 := others_cells (X := W) (fun ob hob => by have h1 : W.heap[w1.heap.size + 1]? = _ := HG.out; rw [h1] at hob; injection hob with hob; rw [← hob]; rfl) ⟨hg6.os, hg6.tape, hg6.output, hg6.size, hg6.block⟩
      have hS6 : Sz w6 a p g r L s := (HSW.out.drewN 1).grown hg6 (fun k e => by injection e with e; omega)
      have hB6 : Below w.heap.size w w6 := below_later (Gw.Below.drewN HBW.out 1) hg6 (Nat.le_refl _) (B := w1.heap.size + 1) (by omega) (fun r e => by injection e with e; omega)
      have HFIN := Lib.hid (show ∀ v', (32 * (j + 1) < n → v' = .slice (some ⟨w1.heap.size + 1, 32 * (j + 1), none⟩) (n - 32 * (j + 1)) (n - 32 * (j + 1))) → KeepsOthers W (w6.setCell ⟨w1.heap.size + 2, 0, none⟩ v') ∧ KpB q a p g r W (w6.setCell ⟨w1.heap.size + 2, 0, none⟩ v') ∧ LoI w a p g r (w1.heap.size + 1) (w1.heap.size + 2) K L s (pre ++ [(nn, blk K j)]) (w6.setCell ⟨w1.heap.size + 2, 0, none⟩ v') from fun v' hv' => by
        have hl : (pre ++ [(nn, blk K j)]).length = j + 1 := by rw [List.length_append, ← HJ.out]; rfl
        have hS7 : Sz (w6.setCell ⟨w1.heap.size + 2, 0, none⟩ v') a p g r L s := hS6.k2 (K2.set w6 (w1.heap.size + 2) (w1.heap.size + 2) 0 v') (by omega) (by omega)
        refine ⟨hko.trans (KeepsOthers.setCell _ _ _), ⟨?_, fun kk hk => ?_, fun L2 s2 hs => ⟨L, s, hS7⟩⟩, hS7, below_later hB6 (grownBy_setCell' w6 (w1.heap.size + 2) v') (Nat.le_refl _) (B := w1.heap.size + 2) (by omega) (fun r e => by injection e with e; omega), ?_, v', heap_set_same r6, fun h => by rw [hl] at h ⊢; rw [← HN.out] at h ⊢; exact hv' h⟩
        · simp only [World.size_setCell]; exact hsz6
        · exact (heap_set_other w6 (w1.heap.size + 2) 0 kk v' (by omega)).trans (hg6.block kk (by show kk < W.heap.size; omega) (fun e => by injection e with e; omega))
        · rw [hl]
          exact hk6.keep (heap_set_other w6 (w1.heap.size + 2) 0 _ v' (by omega)))
      clear r6 hk6 hg6 hko hS6 hB6 hst hod
      by_cases hlast : d ≤ 32
      · have hmin : min 32 d = d := by omega
        rw [hmin] at hcp
        clear hmin
        gi_wp2
        gi_region
        all_goals (gi_wp2; rw [← HJ.out]; exact HFIN.out _ (fun h => absurd h (by have := HO.out; have := HD.out; omega)))
      · have hmin : min 32 d = 32 := by omega
        rw [hmin] at hcp
        clear hmin
        gi_wp2
        gi_region
        all_goals (
          gi_wp2
          rw [← HJ.out]
          refine HFIN.out _ (fun _ => ?_)
          rw [show 32 * (j + 1) = o + 32 by have := HO.out; omega, show n - (o + 32) = d - 32 by have := HD.out; omega])
    case done =>
      rintro D pre W hD hSx ⟨hSW, hBW, hG, v, hR, hv⟩ hK
      rw [hSx, kpt_all (by rw [← HN.out]; exact hk32)] at hG
      have HG := Lib.hid hG
      have HBW := Lib.hid hBW
      have HKX := Lib.hid hK
      clear hS5 hb5 e1 e2 b0 b1 b2 hSW hBW hG hR hv hK hSx
      gi_wp2
      refine ⟨by simp, .inl ⟨_, _, rfl, run_takeDeferred HKX.out, ?_⟩⟩
      have hb6 : Below w.heap.size w (W.putObj D (.deferred none)) := HBW.out.trans (belowK_b (w := w) (Nat.le_refl _) W D _ _ (by omega) HKX.out rfl rfl)
      have hg6 : Bk (W.putObj D (.deferred none)) (w1.heap.size + 1) 5 K := HG.out.keep (World.putObj_heap_other (by omega))
      have hin := hg6.in_ hKb 0 n n (Nat.le_refl _)
      rw [List.drop_zero, List.take_of_length_le (by rw [HN.out]; exact Nat.le_refl _)] at hin
      exact ⟨_, results_tmp rfl _ _ _, some ⟨w1.heap.size + 1, 0, none⟩, n, rfl, hin, hb6⟩
    case stop =>
      rintro D cd pre W hD h
      exact h.elim
theorem Sd.kbb {r side : Nat} {L K : List Nat} (h : Sd r L side K) (hb : BB L) : BB K := fun x hx => by
  obtain ⟨i, hi, rfl⟩ := List.getElem_of_mem hx
  have h1 := h.data i (by have := h.fit; omega)
  rw [co_get hi] at h1
  rw [← h1]
  exact hb.co _
theorem zload_any (a p g r side : Nat) (L K : List Nat) (s : Pw) (w : World) (h : Sz w a p g r L s) (hd : Sd r L side K) :
    Calls Try.prog 16 #[.pointer (some ⟨a, 0, none⟩)] w fun e w' => ∃ A c, e = .returned (.slice A K.length c) ∧ In w' w'.heap.size A c K ∧ Below w.heap.size w w' :=
  callsIn_wide.1 (zload_in a p g r side L K s w h hd (hd.kbb h.dz.bb))
end Go.Proofs.Ytijbpafmokbnaaa
