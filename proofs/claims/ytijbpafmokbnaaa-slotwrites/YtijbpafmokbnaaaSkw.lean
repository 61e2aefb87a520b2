/- The program's slot: Save. -/
import Derived.Test.YtijbpafmokbnaaaSkv
import Derived.Test.YtijbpafmokbnaaaGty
namespace Go.Proofs.Ytijbpafmokbnaaa
open Go.RowKit Go.Shelf Gw Pol
theorem Pw.done_add : ∀ (a b : Nat) (s : Pw), Pw.ok a s = true → Pw.done (a + b) s = a + Pw.done b (Pw.go a s)
  | 0, b, s, _ => by rw [Nat.zero_add, Nat.zero_add]; rfl
  | a + 1, b, s, h => by
    simp only [Pw.ok, Bool.and_eq_true] at h
    rw [show a + 1 + b = (a + b) + 1 by omega]
    show (bif s.can then Pw.done (a + b) s.one + 1 else 0) = a + 1 + Pw.done b (bif s.can then Pw.go a s.one else s.one)
    rw [h.1, cond_true, cond_true, Pw.done_add a b s.one h.2]
    omega
theorem co_zeros (n t : Nat) : co (List.replicate n 0) t = 0 := by
  rw [co_def, List.getElem?_replicate]
  split <;> rfl
theorem blk_zeros (n i : Nat) : blk (List.replicate n 0) i = z32 :=
  ext32 (blk_len _ _) rfl fun t ht => by rw [co_blk _ i t ht, co_z32, co_zeros]
/-- The writes of a Save, part by part. -/
theorem wsS_new (r side : Nat) (b L : List Nat) (d : Nat) (hd : d ≤ tk b.length) : lay (wsS r side b) L d = lay (wsP r (1 - side) b) L d :=
  lay_eq fun j hj => by unfold wsS wsP; rw [if_pos (by omega)]
theorem wsS_root (r side : Nat) (b L : List Nat) : lay (wsS r side b) L (tk b.length + 1) = laid (lay (wsP r (1 - side) b) L (tk b.length)) (0 * 32) (rootB (1 - side) b.length) := by
  have e : wsS r side b (tk b.length) = (0, rootB (1 - side) b.length) := by unfold wsS; rw [if_neg (by omega), if_pos rfl]
  rw [lay_succ, e, wsS_new r side b L _ (Nat.le_refl _)]
theorem wsS_old (r side n : Nat) (b L : List Nat) (d : Nat) : lay (wsS r side b) L (tk b.length + 1 + d) = lay (wsP r side (List.replicate n 0)) (lay (wsS r side b) L (tk b.length + 1)) d := by
  rw [lay_add]
  exact lay_eq fun j _ => by
    unfold wsS wsP
    rw [if_neg (by omega), if_neg (by omega), blk_zeros]
    congr 1
    omega
/-- A made row of noughts. -/
def MkIs (base n : Nat) : Value → World → Prop := fun v w => ∃ g, v = .slice (some ⟨g, 0, none⟩) n n ∧ base ≤ g ∧ Gw.Own w base 5 (some ⟨g, 0, none⟩) n (List.replicate n 0)
theorem MkIs.mono (base n : Nat) : Gt.Mono (MkIs base n) := by
  rintro v w w' ⟨g, rfl, h1, h2⟩ hg
  exact ⟨g, rfl, h1, h2.kept hg⟩
set_option maxRecDepth 100000 in
set_option maxHeartbeats 2000000 in
theorem zsave_any (a p g r side B : Nat) (L K b : List Nat) (s : Pw) (A : Option Addr) (m c : Nat) (w : World) (h : Sz w a p g r L s) (hd : Sd r L side K) (hI : In w B A c b) (hA : ∀ o, b ≠ [] → A ≠ some ⟨a, o, none⟩ ∧ A ≠ some ⟨p, o, none⟩ ∧ A ≠ some ⟨g, o, none⟩) (hm : m = b.length) (ht : tk m ≤ r) (hu : s.u < 2305843009213693952) :
    Calls Try.prog 12 #[.pointer (some ⟨a, 0, none⟩), .slice A m c] w fun e w' => e = .returned (.int .i64 (bif Pw.ok (tk b.length + 1 + tk K.length) s then 0 else 3)) ∧ Sz w' a p g r (lay (wsS r side b) L (Pw.done (tk b.length + 1 + tk K.length) s)) (Pw.go (tk b.length + 1 + tk K.length) s) ∧ K3 w w' a p g := by
  have hfew := hd.few
  have h2 := hd.two
  have hfit := hd.fit
  obtain ⟨n, hn⟩ : ∃ n, n = K.length := ⟨_, rfl⟩
  obtain ⟨t, htt⟩ : ∃ t, t = tk m := ⟨_, rfl⟩
  obtain ⟨k, hk⟩ : ∃ k, k = tk n := ⟨_, rfl⟩
  have hkr : k ≤ r := by rw [hk, tk_le]; omega
  have hm2 : m ≤ 32 * r := tk_le.1 ht
  have hm3 : ¬ (r : Int) * 32 < (m : Int) := by omega
  have htr : t ≤ r := by omega
  have HR := Lib.hid (zroot_any a p g r side L K s w h hd)
  rw [← hn] at HR
  have e1 : (1 : Int) - (side : Int) = ((1 - side : Nat) : Int) := by omega
  have HE1 := Lib.hid e1
  rw [← hm, ← htt, ← hn, ← hk]
  have HN := Lib.hid hn
  have HM := Lib.hid hm
  have HT := Lib.hid htt
  have HK := Lib.hid hk
  have HI := Lib.hid hI
  have HA := Lib.hid hA
  have HU := Lib.hid hu
  have hn2 : n ≤ 32 * r := by omega
  have HS := Lib.hid h
  have HMK := Lib.hid (fun w => run_make_row' (P := Try.prog) 28 5 (.int .u8 0) 1 Try.underlying28 pbyte_info rfl .i64 .i64 n (by omega) (by omega) w)
  clear h hd hI hA hm hn htt hk hu e1 hfit ht
  go_enter Try.func12, Try.ntmps12
  go_wp2_with fail
  refine (zroom_any a p g r L s w HS.out).mono ?_
  rintro e w0 ⟨rfl, rfl⟩
  go_wp2_with fail
  refine HR.out.mono ?_
  rintro e w1 ⟨rfl, hb1⟩
  have hS1 := HS.out.below hb1 (Nat.le_refl _)
  have hlt1 := hS1.lt
  go_wp2_with fail
  rw [HE1.out]
  obtain ⟨V, hV⟩ : ∃ V, V = (w1.alloc (.cells #[.int .i64 (side : Int), .int .i64 (n : Int)] 54)).alloc (.cells #[.int .i64 ((1 - side : Nat) : Int), .int .i64 (m : Int)] 54) := ⟨_, rfl⟩
  rw [← hV]
  have hbV : Below w1.heap.size w1 V := by rw [hV]; exact ((Below.refl _ w1).alloc (Nat.le_refl _) _).alloc (by simp) _
  have hsV : V.heap.size = w1.heap.size + 2 := by rw [hV]; simp
  have v0 : V.heap[w1.heap.size]? = some (.cells #[.int .i64 (side : Int), .int .i64 (n : Int)] 54 (0, 0)) := by
    rw [hV, Below.heap_alloc _ _ _ (by simp)]; exact heap_alloc_new w1 _
  have v1 : V.heap[w1.heap.size + 1]? = some (.cells #[.int .i64 ((1 - side : Nat) : Int), .int .i64 (m : Int)] 54 (0, 0)) := by
    rw [hV]
    have := heap_alloc_new (w1.alloc (.cells #[.int .i64 (side : Int), .int .i64 (n : Int)] 54)) (.cells #[.int .i64 ((1 - side : Nat) : Int), .int .i64 (m : Int)] 54)
    rwa [World.size_alloc] at this
  have HSV := Lib.hid (hS1.below hbV (Nat.le_refl _))
  have HBV := Lib.hid (hb1.trans (hbV.mono hb1.size))
  have HIV := Lib.hid ((KpP.below (p := p) (g := g) (hb1.trans (hbV.mono hb1.size)) (Nat.le_refl _)).inn HI.out (fun o hne => (HA.out o hne).2))
  obtain ⟨sd, hsd⟩ : ∃ sd, sd = 1 - side := ⟨_, rfl⟩
  have HSD := Lib.hid hsd
  have hsd2 : sd ≤ 1 := by omega
  rw [← hsd] at v1 ⊢
  have HV0 := Lib.hid v0
  have HV1 := Lib.hid v1
  clear hV hbV v0 v1 hS1 hb1 HR hsd HE1
  refine (zput_any a p g r sd m c B L b s A V HSV.out hsd2 HIV.out (fun o hne => (HA.out o hne).2) HM.out (by rw [← HT.out]; exact htr) hfew (by have := HU.out; omega)).mono ?_
  rintro e W2 ⟨rfl, hS2, hk2⟩
  rw [← HT.out] at hS2 ⊢
  have HK2 := Lib.hid ((K3.ofBelow (a := a) (p := p) (g := g) HBV.out (Nat.le_refl _)).sm (K3.of2 hk2))
  have g0 := (hk2.block _ (Array.getElem?_eq_some_iff.1 HV0.out).1 (by omega) (by omega)).trans HV0.out
  have g1 := (hk2.block _ (Array.getElem?_eq_some_iff.1 HV1.out).1 (by omega) (by omega)).trans HV1.out
  have HG0 := Lib.hid g0
  have HG1 := Lib.hid g1
  have HS2' := Lib.hid hS2
  have hsz2 := hk2.size
  clear g0 g1 hS2 hk2
  obtain ⟨o1, ho1⟩ : ∃ o1, o1 = Pw.ok t s := ⟨_, rfl⟩
  have HO1 := Lib.hid ho1
  rw [← ho1]
  clear ho1
  cases o1 with
  | false =>
    go_wp2
    go_ret
    obtain ⟨j1, j2, j3, j4⟩ := Pw.go_not t (1 + k) s HO1.out.symm
    rw [show t + (1 + k) = t + 1 + k by omega] at j1 j2 j3
    refine ⟨by rw [j2]; rfl, ?_, HK2.out⟩
    rw [j3, j1, wsS_new r side b L _ (by rw [← HM.out, ← HT.out]; omega), ← HSD.out]
    exact HS2'.out
  | true =>
    obtain ⟨s1, hs1⟩ : ∃ s1, s1 = Pw.go t s := ⟨_, rfl⟩
    obtain ⟨L1, hL1⟩ : ∃ L1, L1 = lay (wsP r sd b) L t := ⟨_, rfl⟩
    rw [Pw.done_ok _ _ HO1.out.symm, ← hs1, ← hL1] at HS2'
    have HS1 := Lib.hid hs1
    have HL1 := Lib.hid hL1
    have hsu : s1.u < 4611686018427387904 := by rw [hs1]; have := (Pw.go_u t s).1; have := HU.out; omega
    have x0 : W2.cell? ⟨w1.heap.size + 1, 0, none⟩ = some (.int .i64 (sd : Int)) := by rw [cell_of_row W2 _ 0 _ _ (0, 0) HG1.out]; rfl
    have x1 : W2.cell? ⟨w1.heap.size + 1, 1, none⟩ = some (.int .i64 (m : Int)) := by rw [cell_of_row W2 _ 1 _ _ (0, 0) HG1.out]; rfl
    clear hs1 hL1
    go_wp2_with fail
    refine (zblock_any sd m W2 hsd2 (by omega)).mono ?_
    rintro e w3 ⟨rfl, hb3⟩
    have HB3 := Lib.hid hb3
    have hzz := zero_blk
    have HNW := Lib.hid (heap_alloc_new w3 (.cells (bys z32).toArray 58))
    obtain ⟨z1, z2, _⟩ := blk_size (rootB_len sd m)
    have HZ1 := Lib.hid z1
    have HZ2 := Lib.hid z2
    clear x0 x1 z1 z2 hb3
    go_wp2_with (first | (refine wpList_store_row rfl 58 (.tmp 8) (.tmp 35) rfl _ (bys (rootB sd m)).toArray rfl rfl _ _ HNW.out HZ1.out HZ2.out (bysK_one _) ?_) | fail)
    obtain ⟨n1, n2⟩ := blk_new w3 (rootB sd m)
    obtain ⟨W4, hW4⟩ : ∃ W4, W4 = (w3.alloc (.cells (bys z32).toArray 58)).setRow w3.heap.size (bys (rootB sd m)).toArray := ⟨_, rfl⟩
    rw [← hW4] at n1 n2 ⊢
    have hb24 : Below W2.heap.size W2 W4 := HB3.out.trans ((grown_below n1).mono HB3.out.size)
    have hS4 := HS2'.out.below hb24 (Nat.le_refl _)
    have c0 := hS4.cell
    have hsl : Sl W4 W4.heap.size (some ⟨w3.heap.size, 0, none⟩) (rootB sd m) := by
      have := n2.sl (rootB_bb hsd2) 0 32
      rwa [List.drop_zero, List.take_of_length_le (by rw [rootB_len]; omega)] at this
    have HSL := Lib.hid hsl
    have HS4 := Lib.hid hS4
    have HB4 := Lib.hid hb24
    have hsz3 := HB3.out.size
    clear hW4 hsl hS4 hb24 n1 n2 hzz
    go_still_tail 5, (by kernel_rfl)
    change wpList _ _ _ _ _ W4.drew
    clear c0
    go_wp2_with fail
    refine (dz_write p g (1 + 2 * r) L1 s1 s1.one s1.can 0 (some ⟨w3.heap.size, 0, none⟩) 32 W4.heap.size (rootB sd m) W4.drew (HS4.out.drewN 1).dz rfl rfl (by omega) HSL.out (fun o e => by injection e with e; injection e with e; omega) (rootB_len _ _) hsu).mono ?_
    rintro e W6 ⟨rfl, hd6, hk6⟩
    have hk6' : K2 W4 W6 p g := ⟨hk6.os, hk6.tape, hk6.output, hk6.size, hk6.block⟩
    have hS6 := HS4.out.turned hk6' hd6
    have HK6 := Lib.hid ((HK2.out.sm (K3.ofBelow (a := a) (p := p) (g := g) HB4.out (Nat.le_refl _))).sm (K3.of2 hk6'))
    have g4 := (HB4.out.block _ (Array.getElem?_eq_some_iff.1 HG0.out).1).trans HG0.out
    have g0 := (hk6'.block _ (Array.getElem?_eq_some_iff.1 g4).1 (by omega) (by omega)).trans g4
    have HS6 := Lib.hid hS6
    have HG6 := Lib.hid g0
    clear hd6 hk6 hk6' hS6 g4 g0
    obtain ⟨cn, hcn⟩ : ∃ cn, cn = s1.can := ⟨_, rfl⟩
    have HCN := Lib.hid hcn
    rw [← hcn] at HS6 ⊢
    clear hcn
    cases cn with
    | false =>
      go_wp2
      go_ret
      have hcan : (Pw.go t s).can = false := by rw [← HS1.out, ← HCN.out]
      have hst := Pw.stops t k s HO1.out.symm hcan
      have hdo := Pw.done_stops t k s HO1.out.symm hcan
      refine ⟨by rw [hst.2]; rfl, ?_, HK6.out⟩
      rw [hdo, hst.1, wsS_new r side b L _ (by rw [← HM.out, ← HT.out]; omega), ← HSD.out, ← HL1.out, ← HS1.out]
      exact HS6.out
    | true =>
      obtain ⟨s2, hs2⟩ : ∃ s2, s2 = Pw.go (t + 1) s := ⟨_, rfl⟩
      obtain ⟨L2, hL2⟩ : ∃ L2, L2 = lay (wsS r side b) L (t + 1) := ⟨_, rfl⟩
      have hok2 : Pw.ok (t + 1) s = true := by rw [Pw.ok_snoc, ← HO1.out, ← HS1.out, ← HCN.out]; rfl
      have hS62 : Sz W6 a p g r L2 s2 := by
        have h1 := HS6.out
        rw [hL2, hs2, HT.out, HM.out, wsS_root, ← HSD.out, ← HM.out, ← HT.out, Pw.go_snoc _ _ HO1.out.symm, ← HS1.out, ← HL1.out]
        exact h1
      have HOK2 := Lib.hid hok2
      have HS2 := Lib.hid hs2
      have HL2 := Lib.hid hL2
      clear HS6
      have HS6 := Lib.hid hS62
      have x0 : W6.cell? ⟨w1.heap.size, 0, none⟩ = some (.int .i64 (side : Int)) := by rw [cell_of_row W6 _ 0 _ _ (0, 0) HG6.out]; rfl
      have x1 : W6.cell? ⟨w1.heap.size, 1, none⟩ = some (.int .i64 (n : Int)) := by rw [cell_of_row W6 _ 1 _ _ (0, 0) HG6.out]; rfl
      have HC5 := Lib.hid (And.intro x0 x1)
      have HL5 := Lib.hid (cell_lt x0)
      clear hok2 hs2 hL2 hS62
      by_cases hz : side = 0 ∧ n = 0
      · obtain ⟨rfl, rfl⟩ := hz
        go_wp2
        go_ret
        have hk0 : k = 0 := by rw [HK.out]; rfl
        rw [hk0, Nat.add_zero]
        refine ⟨by rw [HOK2.out]; rfl, ?_, HK6.out⟩
        rw [Pw.done_ok _ _ HOK2.out, ← HL2.out, ← HS2.out]
        exact HS6.out
      · rcases (show (side = 0 ∧ n ≠ 0) ∨ side = 1 by omega) with ⟨rfl, hn0⟩ | rfl
        · clear hz
          go_wp2
          clear x0 x1 hn0
          refine Gt.regionB [Gt.Is (.pointer (some ⟨a, 0, none⟩)), Gt.Is (.pointer (some ⟨w1.heap.size, 0, none⟩)), Gt.Is (.int .i64 (0 : Int)), Gt.Is (.pointer (some ⟨w1.heap.size, 1, none⟩)), Gt.Is (.int .i64 (n : Int)), MkIs W6.heap.size n] 55 6
            [⟨[], [0], none⟩, ⟨[], [5], none⟩, ⟨[(1, 49)], [], none⟩, ⟨[], [5], none⟩, ⟨[(3, 51)], [], none⟩, ⟨[(4, 52)], [], none⟩, ⟨[(0, 48), (2, 50), (5, 53)], [], none⟩, ⟨[(6, 54)], [], none⟩]
            [(0, 48), (1, 49), (2, 50), (3, 51), (4, 52), (5, 53)] (by kernel_rfl) (by kernel_rfl) (by kernel_rfl) (by kernel_rfl) (by kernel_rfl) ?_ ?_ ?_
          · simp only [Gt.Monos]
            repeat' apply And.intro
            all_goals (first | exact trivial | exact Gt.Is.mono _ | exact MkIs.mono _ _)
          · simp only [List.take_succ_cons, List.take_zero, Gt.Obs]
            repeat' apply And.intro
            all_goals try exact trivial
            all_goals (
              intro aa w5 hg
              have hg' : Below W6.heap.size W6 w5 := hg
              simp only [Gt.Pre, Gt.Kept, Gt.Guarded, Gt.tys, List.getD_cons_zero, List.getD_cons_succ, Gt.Is, Nat.zero_add, Nat.reduceAdd]
              intros
              try (refine ⟨fun _ => ?_, fun hne => absurd (by assumption) hne⟩))
            all_goals (first
              | exact Gt.ok_move rfl (by assumption)
              | exact Gt.ok_assign rfl (by assumption)
              | exact Gt.ok_pick rfl (by assumption) (by rw [if_pos rfl]; assumption)
              | (have hmk := HMK.out w5
                 refine Gt.ok_runW (v := .slice (some ⟨w5.heap.size, 0, none⟩) n n) (w' := w5.alloc (.cells (madeCells #[.int .u8 0] n) 5)) ?_ ((Below.refl _ _).alloc (Nat.le_refl _) _) ⟨_, rfl, hg'.size, (Own.made w5 5 n (by omega)).base hg'.size⟩
                 simp only [execOp, *]
                 go_simp
                 done)
              | (have k5 := (hg'.cell (p := ⟨w1.heap.size, 0, none⟩) HL5.out).trans HC5.out.1
                 have k6 := (hg'.cell (p := ⟨w1.heap.size, 1, none⟩) HL5.out).trans HC5.out.2
                 refine Gt.ok_run ?_ rfl
                 simp only [execOp, *]
                 go_simp
                 done))
          · intro aa w5 hg
            have hg' : Below W6.heap.size W6 w5 := hg
            simp only [Gt.Pre, Gt.tys, List.getD_cons_zero, List.getD_cons_succ, Gt.Is]
            intro h0 h1 h2 h3 h4 h5
            obtain ⟨g5, h5, hg5, hO5⟩ := h5
            simp only [Gt.puts, List.foldl_cons, List.foldl_nil, h0, h1, h2, h3, h4, h5]
            simp only [Act.put, List.setIfInBounds_toArray, List.set_cons_zero, List.set_cons_succ]
            simp only [List.drop_succ_cons, List.drop_zero]
            have HO5 := Lib.hid hO5.inn
            have HS5 := Lib.hid (HS6.out.below hg' (Nat.le_refl _))
            have HB5 := Lib.hid hg'
            have HG5 := Lib.hid hg5
            clear h0 h1 h2 h3 h4 h5 hO5 hg5 hg' hg
            go_wp2_with fail
            refine (zput_any a p g r 0 n n w5.heap.size L2 (List.replicate n 0) s2 (some ⟨g5, 0, none⟩) w5 HS5.out h2 HO5.out (fun o _ => ⟨fun e => ?_, fun e => ?_⟩) (by simp) (by rw [← HK.out]; exact hkr) hfew ?_).mono ?_
            · injection e with e; injection e with e; have := HS6.out.lt; have := HG5.out; omega
            · injection e with e; injection e with e; have := HS6.out.lt; have := HG5.out; omega
            · rw [HS2.out]; have := (Pw.go_u (t + 1) s).1; have := HU.out; omega
            rintro e w8 ⟨rfl, hS8, hk8⟩
            rw [← HK.out] at hS8 ⊢
            have HS8 := Lib.hid hS8
            have HK8 := Lib.hid hk8
            clear hS8 hk8
            go_wp2
            go_ret
            refine ⟨?_, ?_, ?_⟩
            · rw [(Pw.go_add (t + 1) k s HOK2.out).2, ← HS2.out]
              rfl
            · have h1 := HS8.out
              rw [HL2.out] at h1
              have hold : lay (wsS r 0 b) L (t + 1 + Pw.done k s2) = lay (wsP r 0 (List.replicate n 0)) (lay (wsS r 0 b) L (t + 1)) (Pw.done k s2) := by
                rw [HT.out, HM.out]
                exact wsS_old r 0 n b L _
              rw [Pw.done_add _ _ _ HOK2.out, (Pw.go_add (t + 1) k s HOK2.out).1, ← HS2.out, hold]
              exact h1
            · exact (HK6.out.sm (K3.ofBelow HB5.out (Nat.le_refl _))).sm (K3.of2 HK8.out)
        · clear hz
          go_wp2
          clear x0 x1
          refine Gt.regionB [Gt.Is (.pointer (some ⟨a, 0, none⟩)), Gt.Is (.pointer (some ⟨w1.heap.size, 0, none⟩)), Gt.Is (.int .i64 (1 : Int)), Gt.Is (.pointer (some ⟨w1.heap.size, 1, none⟩)), Gt.Is (.int .i64 (n : Int)), MkIs W6.heap.size n] 55 6
            [⟨[], [0], none⟩, ⟨[], [5], none⟩, ⟨[(1, 49)], [], none⟩, ⟨[], [5], none⟩, ⟨[(3, 51)], [], none⟩, ⟨[(4, 52)], [], none⟩, ⟨[(0, 48), (2, 50), (5, 53)], [], none⟩, ⟨[(6, 54)], [], none⟩]
            [(0, 48), (1, 49), (2, 50), (3, 51), (4, 52), (5, 53)] (by kernel_rfl) (by kernel_rfl) (by kernel_rfl) (by kernel_rfl) (by kernel_rfl) ?_ ?_ ?_
          · simp only [Gt.Monos]
            repeat' apply And.intro
            all_goals (first | exact trivial | exact Gt.Is.mono _ | exact MkIs.mono _ _)
          · simp only [List.take_succ_cons, List.take_zero, Gt.Obs]
            repeat' apply And.intro
            all_goals try exact trivial
            all_goals (
              intro aa w5 hg
              have hg' : Below W6.heap.size W6 w5 := hg
              simp only [Gt.Pre, Gt.Kept, Gt.Guarded, Gt.tys, List.getD_cons_zero, List.getD_cons_succ, Gt.Is, Nat.zero_add, Nat.reduceAdd]
              intros
              try (refine ⟨fun _ => ?_, fun hne => absurd (by assumption) hne⟩))
            all_goals (first
              | exact Gt.ok_move rfl (by assumption)
              | exact Gt.ok_assign rfl (by assumption)
              | exact Gt.ok_pick rfl (by assumption) (by rw [if_pos rfl]; assumption)
              | (have hmk := HMK.out w5
                 refine Gt.ok_runW (v := .slice (some ⟨w5.heap.size, 0, none⟩) n n) (w' := w5.alloc (.cells (madeCells #[.int .u8 0] n) 5)) ?_ ((Below.refl _ _).alloc (Nat.le_refl _) _) ⟨_, rfl, hg'.size, (Own.made w5 5 n (by omega)).base hg'.size⟩
                 simp only [execOp, *]
                 go_simp
                 done)
              | (have k5 := (hg'.cell (p := ⟨w1.heap.size, 0, none⟩) HL5.out).trans HC5.out.1
                 have k6 := (hg'.cell (p := ⟨w1.heap.size, 1, none⟩) HL5.out).trans HC5.out.2
                 refine Gt.ok_run ?_ rfl
                 simp only [execOp, *]
                 go_simp
                 done))
          · intro aa w5 hg
            have hg' : Below W6.heap.size W6 w5 := hg
            simp only [Gt.Pre, Gt.tys, List.getD_cons_zero, List.getD_cons_succ, Gt.Is]
            intro h0 h1 h2 h3 h4 h5
            obtain ⟨g5, h5, hg5, hO5⟩ := h5
            simp only [Gt.puts, List.foldl_cons, List.foldl_nil, h0, h1, h2, h3, h4, h5]
            simp only [Act.put, List.setIfInBounds_toArray, List.set_cons_zero, List.set_cons_succ]
            simp only [List.drop_succ_cons, List.drop_zero]
            have HO5 := Lib.hid hO5.inn
            have HS5 := Lib.hid (HS6.out.below hg' (Nat.le_refl _))
            have HB5 := Lib.hid hg'
            have HG5 := Lib.hid hg5
            clear h0 h1 h2 h3 h4 h5 hO5 hg5 hg' hg
            go_wp2_with fail
            refine (zput_any a p g r 1 n n w5.heap.size L2 (List.replicate n 0) s2 (some ⟨g5, 0, none⟩) w5 HS5.out h2 HO5.out (fun o _ => ⟨fun e => ?_, fun e => ?_⟩) (by simp) (by rw [← HK.out]; exact hkr) hfew ?_).mono ?_
            · injection e with e; injection e with e; have := HS6.out.lt; have := HG5.out; omega
            · injection e with e; injection e with e; have := HS6.out.lt; have := HG5.out; omega
            · rw [HS2.out]; have := (Pw.go_u (t + 1) s).1; have := HU.out; omega
            rintro e w8 ⟨rfl, hS8, hk8⟩
            rw [← HK.out] at hS8 ⊢
            have HS8 := Lib.hid hS8
            have HK8 := Lib.hid hk8
            clear hS8 hk8
            go_wp2
            go_ret
            refine ⟨?_, ?_, ?_⟩
            · rw [(Pw.go_add (t + 1) k s HOK2.out).2, ← HS2.out]
              rfl
            · have h1 := HS8.out
              rw [HL2.out] at h1
              have hold : lay (wsS r 1 b) L (t + 1 + Pw.done k s2) = lay (wsP r 1 (List.replicate n 0)) (lay (wsS r 1 b) L (t + 1)) (Pw.done k s2) := by
                rw [HT.out, HM.out]
                exact wsS_old r 1 n b L _
              rw [Pw.done_add _ _ _ HOK2.out, (Pw.go_add (t + 1) k s HOK2.out).1, ← HS2.out, hold]
              exact h1
            · exact (HK6.out.sm (K3.ofBelow HB5.out (Nat.le_refl _))).sm (K3.of2 HK8.out)
end Go.Proofs.Ytijbpafmokbnaaa
