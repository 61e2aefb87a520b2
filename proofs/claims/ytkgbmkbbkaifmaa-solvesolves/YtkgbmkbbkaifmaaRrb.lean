/- What the definition's own Reduce (package shamrockref01) does: rows made plain, in memory of its own; which columns have a row of their own. -/
import Derived.Test.YtkgbmkbbkaifmaaRra
import Derived.Test.YtkgbmkbbkaifmaaRfa
import Derived.Test.YtkgbmkbbkaifmaaSvg
namespace Go.Proofs.Ytkgbmkbbkaifmaa
open Go.RowKit Go.Shelf Gw Pol

theorem rmul_sti (a b : Nat) (ha : a < 256) (hb : b < 256) (w : World) : Calls Try.prog 14 #[.int .u8 (a : Int), .int .u8 (b : Int)] w fun e w' => e = .returned (.int .u8 (Gf.gm a b : Int)) ∧ w' = w :=
  (rmul_any a b ha hb w).mono fun _ _ h => ⟨h.1, h.2.symm⟩
def RgRel (w : World) (n R : Nat) (l : Nat → List Nat) (v i : Value) (wr : World) : Prop :=
  ∃ (k : Nat) (pa : Nat → Option Addr) (cp : Nat → Nat), k ≤ R ∧ i = .int .i64 (k : Int) ∧ Grow w wr 23 5 v n k pa cp l
/-- What Reduce tells: which columns have a row of their own. -/
def RrAns (w : World) (R n : Nat) (M : Sv.Mx) (e : Ending) (w' : World) : Prop :=
  ∃ (Am Ao : Option Addr) (cm co' : Nat), e = .returned (.tuple #[.slice Am R cm, .slice Ao (Sv.red R M n).2.length co']) ∧ OwnI w' w.heap.size 3 Ao co' (Sv.red R M n).2 ∧ Below w.heap.size w w'

set_option maxRecDepth 100000 in
set_option maxHeartbeats 8000000 in
theorem rreduce_any (A : Option Addr) (c R n : Nat) (A' : Nat → Option Addr) (c' : Nat → Nat) (l : Nat → List Nat) (w : World) (h : MIn w w.heap.size A c R A' c' l)
    (hl : ∀ i, i < R → (l i).length = n) (h0 : R = 0 → n = 0) (hR : R ≤ 1073741824) (hnm : n ≤ 1073741824) (hbb : ∀ i, BB (l i)) :
    Calls Try.prog 12 #[.slice A R c] w fun e w' => RrAns w R n (fun i j => co (l i) j) e w' := by
  obtain ⟨i0, hi0, hz0, hz1, hz2⟩ := info_parts pbyte_info
  obtain ⟨i1, hj0, hj1, hj2, hj3⟩ := info_parts prow_info
  obtain ⟨i2, hk0, hk1, hk2, hk3⟩ := info_parts int_info
  have hcap := h.cap
  have HN := Lib.hid hl
  clear hl
  go_enter Try.func12, Try.ntmps12
  go_wp2
  go_loopw [4, 5] (RgRel w n R l) (fun _ i _ => R - (intOf i).toNat)
  case atStart => exact ⟨0, _, _, Nat.zero_le _, rfl, Grow.start _ _ _ _ _⟩
  case round =>
    obtain ⟨k, pa, cp, hk, rfl, hG⟩ := hrel
    by_cases hlt : k < R
    · have hs := hG.bel.size
      obtain ⟨b0, off0, rfl, hb0, hc0, hIk⟩ := (h.below hG.bel).rd k hlt
      rw [HN.out k hlt] at hc0
      have c1 : ∀ o, (wr.alloc o).cell? ⟨b0, off0 + k, none⟩ = some (.slice (A' k) n (c' k)) := fun o => (World.cell?_alloc_lt wr o _ (by show b0 < _; omega)).trans hc0
      have HG := Lib.hid hG
      clear hG hc0
      go_wp2_with (first
        | (at_builtin; refine wpList_app rfl (.tmp 22) (.tmp 26) 23 rfl wr.heap.size 5 i0 _ Try.underlying23 hi0 hz0 hz1 hz2 rfl (some ⟨wr.heap.size, 0, none⟩) 0 0 [] rfl rfl (Own.lit0 wr wr.heap.size 5 (Nat.le_refl _)) w.heap.size (A' k) n (c' k) (l k) rfl (HN.out k hlt).symm hIk.none_ (hIk.sl.alloc hs _) (by rw [HN.out k hlt]; simp; omega) (by simp) ?_; intro A2 c2 w2 hown2 hgr2; rw [List.nil_append] at hown2 ⊢; rw [HN.out k hlt]; have hB2 := below_lit' (Below.refl wr.heap.size wr) (Nat.le_refl _) hgr2; clear c1)
        | (at_builtin; refine wpList_append_own _ rfl (.tmp 21) (.tmp 28) 22 rfl w.heap.size 23 i1 (.slice none 0 0) 1 24 Try.underlying22 hj0 hj1 hj2 hj3 rfl (by decide) _ k (rvs pa cp n k) rfl ((HG.out.own2 hB2).alloc _) ⟨w2.heap.size, 0, none⟩ 1 1 [.slice A2 n c2] rfl rfl (fun j u hj => by
              match j, hj with
              | 0, hj => simp at hj; subst hj; exact cell_new w2 _ _) (fun u hu => by simp at hu; subst hu; rfl) (by simp only [maxLen]; omega) (by omega) (by rw [World.size_alloc]; have := hB2.size; omega) ?_; intro v' w3 hown3 hgr3 _))
      have HS := Lib.hid (HG.out.step (by decide) hB2 hown2 _ hown3 hgr3)
      clear hown2 hgr2 hown3 hgr3 hB2
      go_wp2
      go_roundw
      case rel => exact ⟨k + 1, _, _, by omega, by go_num, HS.out⟩
      case measure => simp [intOf]; omega
    · have ek : R = k := by omega
      subst ek
      have HB := Lib.hid hG.bel
      have HG := Lib.hid hG
      clear hG
      by_cases hR0 : R = 0
      · have hv := HG.out.shape
        obtain ⟨A1, c1, rfl, hc1, hcn⟩ := hv
        subst hR0
        go_wp2
        go_loop [6, 7] (fun v i => v = .slice none 0 0 ∧ i = .int .i64 0) (fun _ _ => 0)
        case atStart => exact ⟨rfl, rfl⟩
        case round =>
          obtain ⟨rfl, rfl⟩ := hrel
          go_wp2
          go_ret2
          refine ⟨A1, none, c1, 0, ?_, ?_, HB.out⟩
          · rw [red_none]; rfl
          · rw [red_none]; exact OwnI.nil _ _ _
      · by_cases hn0 : n = 0
        · subst hn0
          obtain ⟨g, cm, rfl, hcm, hg1, hg2, hcell⟩ := HG.out.cell (i := 0) (by omega)
          have hc0 := (hcell 0 (by omega)).1
          clear hcell
          have hk0 : ¬ ((R : Int) ≤ 0) := by omega
          have hk1 : 0 < R := by omega
          go_wp2
          go_loop [6, 7] (fun v i => v = .slice none 0 0 ∧ i = .int .i64 0) (fun _ _ => 0)
          case atStart => exact ⟨rfl, rfl⟩
          case round =>
            obtain ⟨rfl, rfl⟩ := hrel
            go_wp2
            go_ret2
            exact ⟨some ⟨g, 0, none⟩, none, cm, 0, rfl, OwnI.nil _ _ _, HB.out⟩
        · obtain ⟨g, cm, bs, rfl, hcm, hT⟩ := HG.out.tab (by decide) (by omega) (by omega) HN.out
          have hM : Sv.Bm (fun i j => co (l i) j) := fun i j => co_lt (hbb i) j
          obtain ⟨M, hMe⟩ : ∃ M : Sv.Mx, M = (fun i j => co (l i) j) := ⟨_, rfl⟩
          rw [← hMe] at hT hM
          have HME := Lib.hid hMe
          clear HG hMe hbb h HN hcap hi0 hz0 hz1 hz2 hj0 hj1 hj2 hj3 hn0
          have hs := hT.his
          have hBs := HB.out.size
          have hR1 : 0 < R := by omega
          obtain ⟨W0, rfl⟩ : ∃ W0 : World, W0 = wr := ⟨_, rfl⟩
          go_wp2
          go_loopw [6, 7] (RdRel W0 w.heap.size W0.heap.size g R n M) (fun _ i _ => n - (intOf i).toNat)
          case atStart => exact ⟨0, bs, cp, none, 0, Nat.zero_le _, rfl, rfl, OwnI.nil _ _ _, hT, Kt.refl _ _ _⟩
          case round =>
            clear hT
            obtain ⟨cc, bs, cp, Ao, cl, hcn, rfl, rfl, hO, hT, hK⟩ := hrel
            have hE := Sv.red_ech R hM cc
            have hsr := hK.size
            have hcl : (Sv.red R M cc).2.length ≤ cl := hO.capl
            have r0 := hT.rowc hR1
            have hpos : ¬ ((R : Int) ≤ 0) := by omega
            by_cases hlt : cc < n
            · obtain ⟨N, hN⟩ : ∃ N, N = (Sv.red R M cc).1 := ⟨_, rfl⟩
              obtain ⟨L, hL⟩ : ∃ L, L = (Sv.red R M cc).2 := ⟨_, rfl⟩
              have HRS : Hid (Sv.red R M (cc + 1) = Sv.step R cc (N, L)) := Lib.hid (by rw [hN, hL]; rfl)
              rw [← hN] at hT hE
              rw [← hL] at hO hE hcl ⊢
              have hlen := hE.len
              have hNb := hE.byt
              clear hE hN hL
              obtain ⟨m, hm⟩ : ∃ m, m = L.length := ⟨_, rfl⟩
              rw [← hm] at hlen hcl ⊢
              have HM := Lib.hid hm
              clear hm
              obtain ⟨W1, rfl⟩ : ∃ W1 : World, W1 = wr := ⟨_, rfl⟩
              have HT := Lib.hid hT
              have HK := Lib.hid hK
              have HO := Lib.hid hO
              clear hT hK hO
              rcases Sv.step_or R cc N L with ⟨h0, e⟩ | ⟨r, h1, h2, h4, h3, e⟩
              · rw [e] at HRS
                have H0 := Lib.hid h0
                clear h0 e
                go_wp2
                go_loop [8] (fun i => ∃ t : Nat, m ≤ t ∧ t ≤ R ∧ i = .int .i64 (t : Int)) (fun i => R - (intOf i).toNat)
                case atStart => exact ⟨m, Nat.le_refl _, hlen, rfl⟩
                case round =>
                  obtain ⟨t, ht1, ht2, rfl⟩ := hrel
                  by_cases e : t < R
                  · have a1 := HT.out.rowc e
                    have a2 := HT.out.byc e hlt
                    rw [H0.out t (by rw [← HM.out]; exact ht1) e] at a2
                    have z0 : (((0 : Nat) : Int) == 0) = true := rfl
                    go_wp2
                    go_round
                    case rel => exact ⟨t + 1, by omega, by omega, by go_num⟩
                    case measure => simp [intOf]; omega
                  · have et : R = t := by omega
                    have b1 : ((t : Int) == (R : Int)) = true := by rw [et]; simp
                    clear r0
                    go_wp2
                    go_roundw
                    case rel => exact ⟨cc + 1, bs, cp, Ao, cl, by omega, by go_num, by rw [HRS.out, HM.out], by rw [HRS.out]; exact HO.out, by rw [HRS.out]; exact HT.out, HK.out⟩
                    case measure => simp [intOf]; omega
              · rw [e] at HRS
                rw [← HM.out] at h1 h3
                have H3 := Lib.hid h3
                have hmR : m < R := by omega
                clear h3 e
                go_wp2
                go_loop [8] (fun i => ∃ t : Nat, m ≤ t ∧ t ≤ r ∧ i = .int .i64 (t : Int)) (fun i => R - (intOf i).toNat)
                case atStart => exact ⟨m, Nat.le_refl _, h1, rfl⟩
                case round =>
                  obtain ⟨t, ht1, ht2, rfl⟩ := hrel
                  by_cases e : t < r
                  · have a1 := HT.out.rowc (show t < R by omega)
                    have a2 := HT.out.byc (show t < R by omega) hlt
                    rw [H3.out t ht1 e] at a2
                    have z0 : (((0 : Nat) : Int) == 0) = true := rfl
                    go_wp2
                    go_round
                    case rel => exact ⟨t + 1, by omega, by omega, by go_num⟩
                    case measure => simp [intOf]; omega
                  · obtain rfl : t = r := by omega
                    have a1 := HT.out.rowc h2
                    have a2 := HT.out.byc h2 hlt
                    obtain ⟨x, hx⟩ : ∃ x, x = N t cc := ⟨_, rfl⟩
                    rw [← hx] at a2 h4
                    have hxb : x < 256 := by rw [hx]; exact hNb _ _
                    have z0 : ((x : Int) == 0) = false := beq_eq_false_iff_ne.2 (by omega)
                    have z1 : ((t : Int) == (R : Int)) = false := beq_eq_false_iff_ne.2 (by omega)
                    have HX := Lib.hid hx
                    clear hx h4 r0 e
                    have a3 := HT.out.rowc hmR
                    go_wp2
                    have f1 := HT.out.rowf hmR
                    have f2 := HT.out.rowf h2
                    have y1 : (W1.setCell ⟨g, m, none⟩ (.slice (some ⟨bs t, 0, none⟩) n (cp t))).cell? ⟨g, t, none⟩ = some (.slice (some ⟨bs t, 0, none⟩) n (cp t)) := by
                      by_cases e : m = t
                      · subst e; exact World.cell?_setCell_same _ _ _ a1
                      · rw [World.cell?_setCell_other _ _ _ _ (fun h => e (by cases h; rfl))]; exact a1
                    have y2 : (W1.setCell ⟨g, m, none⟩ (.slice (some ⟨bs t, 0, none⟩) n (cp t))).frozen? ⟨g, t, none⟩ = false := by rw [World.frozen?_setCell]; exact f2
                    have y3 : (W1.drew.setCell ⟨g, m, none⟩ (.slice (some ⟨bs t, 0, none⟩) n (cp t))).cell? ⟨g, t, none⟩ = some (.slice (some ⟨bs t, 0, none⟩) n (cp t)) := y1
                    have y4 : (W1.drew.setCell ⟨g, m, none⟩ (.slice (some ⟨bs t, 0, none⟩) n (cp t))).frozen? ⟨g, t, none⟩ = false := y2
                    go_cut [] (fun wx => ∃ q, wx = ((W1.drewN q).setCell ⟨g, m, none⟩ (.slice (some ⟨bs t, 0, none⟩) n (cp t))).setCell ⟨g, t, none⟩ (.slice (some ⟨bs m, 0, none⟩) n (cp m)))
                    case first =>
                      go_region
                      all_goals (go_wp2_with fail; go_meet; exact ⟨_, rfl⟩)
                    case rest =>
                      obtain ⟨q, hwc⟩ := hcut
                      have T2 : Tab wc w.heap.size W0.heap.size g (sw m t bs) (sw m t cp) (Sv.swp N m t) R n := by rw [hwc]; exact (HT.out.drewN q).swap hmR h2
                      have hgl := HT.out.glo
                      have K2 : Kt w.heap.size W0.heap.size W1 wc := by rw [hwc]; exact (((Kt.refl _ _ W1).drewN q).set (p := ⟨g, m, none⟩) hgl _).set (p := ⟨g, t, none⟩) hgl _
                      have HNX : Hid (Sv.nxt N m t cc = Sv.swe (Sv.scl (Sv.swp N m t) m cc) m cc) := Lib.hid rfl
                      have hPb := Sv.swp_b hNb m t
                      have hPx : Sv.swp N m t m cc = x := by rw [HX.out]; simp [Sv.swp]
                      obtain ⟨P, hP⟩ : ∃ P, P = Sv.swp N m t := ⟨_, rfl⟩
                      obtain ⟨bs2, hbs2⟩ : ∃ b, b = sw m t bs := ⟨_, rfl⟩
                      obtain ⟨cp2, hcp2⟩ : ∃ b, b = sw m t cp := ⟨_, rfl⟩
                      rw [← hP] at T2 HNX hPb hPx
                      rw [← hbs2, ← hcp2] at T2
                      have HK2 := Lib.hid (HK.out.trans K2)
                      have HO2 := Lib.hid (HO.out.kt K2 (Nat.le_refl _))
                      clear hP hbs2 hcp2 hwc a1 a2 a3 f1 f2 y1 y2 y3 y4 z0 z1 HX HT HK HO K2 hsr hNb H3 hgl
                      have g1 := T2.rowc hmR
                      have g2 := T2.byc hmR hlt
                      rw [hPx] at g2
                      have HPX := Lib.hid hPx
                      clear hPx
                      have HT2 := Lib.hid T2
                      clear T2
                      obtain ⟨W2, rfl⟩ : ∃ W2 : World, W2 = wc := ⟨_, rfl⟩
                      go_wp2_with (go_at_call 22; refine (rinv_any x hxb _).mono ?_; rintro e w' ⟨rfl, rfl⟩)
                      clear g1 g2
                      go_loopw [11] (Ch1Rel W2 w.heap.size W0.heap.size g bs2 cp2 P R n m (Gf.inv x)) (fun i _ => n - (intOf i).toNat)
                      case atStart => exact ⟨0, Nat.zero_le _, rfl, HT2.out.congr fun i j _ _ => by simp, Kt.refl _ _ _⟩
                      case round =>
                        obtain ⟨j, hj, rfl, hT4, hK4⟩ := hrel
                        by_cases hjn : j < n
                        · have g1 := hT4.rowc hmR
                          have g2 := hT4.byc hmR hjn
                          have g3 := hT4.byf hmR hjn
                          simp only [Nat.lt_irrefl, and_false, if_false] at g2
                          have hbl := hT4.blo m hmR
                          have HS := Lib.hid ((hT4.drewN 1).put hmR hjn (Gf.gm (P m j) (Gf.inv x)))
                          have HK4 := Lib.hid ((hK4.drewN 1).set (p := ⟨bs2 m, j, none⟩) hbl (.int .u8 (Gf.gm (P m j) (Gf.inv x) : Int)))
                          obtain ⟨p, hp⟩ : ∃ p, p = P m j := ⟨_, rfl⟩
                          have hpb : p < 256 := by rw [hp]; exact hPb _ _
                          have HP := Lib.hid hp
                          rw [← hp] at g2 HS HK4
                          clear hp hT4 hK4
                          go_wp2
                          go_still_tail 15, (by kernel_rfl)
                          still_call (rmul_sti p (Gf.inv x) hpb (Gf.inv_lt _) _)
                          repeat still_step
                          refine wpStill_nil ?_
                          change wpList _ _ _ _ _ wr.drew
                          go_wp2
                          go_roundw
                          case rel => exact ⟨j + 1, by omega, by go_num, HS.out.congr fun i j' _ _ => by
                              by_cases e : i = m
                              · subst e
                                by_cases e2 : j' = j
                                · subst e2; simp [HP.out, Gf.gm_comm]
                                · simp only [true_and, if_neg e2]
                                  by_cases e3 : j' < j
                                  · rw [if_pos e3, if_pos (by omega)]
                                  · rw [if_neg e3, if_neg (by omega)]
                              · simp [e], HK4.out⟩
                          case measure => simp [intOf]; omega
                        · have T5 : Tab wr w.heap.size W0.heap.size g bs2 cp2 (swt (Sv.scl P m cc) m cc 0) R n := hT4.congr fun i j' _ hj' => by
                            unfold swt
                            rw [if_neg (Nat.not_lt_zero i)]
                            unfold Sv.scl
                            rw [HPX.out]
                            by_cases e : i = m
                            · rw [if_pos ⟨e, by omega⟩, if_pos e]
                            · rw [if_neg (fun h => e h.1), if_neg e]
                          have hSb := Sv.scl_b hPb m cc
                          have HK5 := Lib.hid (HK2.out.trans hK4)
                          have HO5 := Lib.hid (HO2.out.kt hK4 (Nat.le_refl _))
                          have g1 := hT4.rowc hmR
                          obtain ⟨S, hS⟩ : ∃ S, S = Sv.scl P m cc := ⟨_, rfl⟩
                          rw [← hS] at T5 hSb HNX
                          have HT5 := Lib.hid T5
                          clear T5 hS hT4 hK4 HT2 HK2 HO2 HPX hPb
                          obtain ⟨W5, rfl⟩ : ∃ W5 : World, W5 = wr := ⟨_, rfl⟩
                          go_wp2
                          clear g1
                          go_loopw [12] (SwRel W5 w.heap.size W0.heap.size g bs2 cp2 S R n m cc) (fun i _ => R - (intOf i).toNat)
                          case atStart => exact ⟨0, Nat.zero_le _, rfl, HT5.out, Kt.refl _ _ _⟩
                          case round =>
                            obtain ⟨i, hi, rfl, hT6, hK6⟩ := hrel
                            by_cases hiR : i < R
                            · have g1 := hT6.rowc hiR
                              have g2 := hT6.byc hiR hlt
                              rw [swt_at] at g2
                              obtain ⟨y, hy⟩ : ∃ y, y = S i cc := ⟨_, rfl⟩
                              rw [← hy] at g2
                              have hyb : y < 256 := by rw [hy]; exact hSb _ _
                              have HY := Lib.hid hy
                              have HT6 := Lib.hid hT6
                              have HK6 := Lib.hid hK6
                              clear hy hT6 hK6
                              obtain ⟨W6, rfl⟩ : ∃ W6 : World, W6 = wr := ⟨_, rfl⟩
                              by_cases eim : i = m
                              · have b1 : ((i : Int) == (m : Int)) = true := by rw [eim]; simp
                                have HIM := Lib.hid eim
                                clear eim
                                go_wp2
                                go_loop [14] (fun v => v = .int .i64 0) (fun _ => 0)
                                case atStart => rfl
                                case round =>
                                  obtain rfl := hrel
                                  have hn1 : 0 < n := by omega
                                  go_wp2
                                  go_roundw
                                  case rel => exact ⟨i + 1, by omega, by go_num, HT6.out.congr fun i' j' _ _ => swt_skip (.inl HIM.out) i' j', HK6.out⟩
                                  case measure => simp [intOf]; omega
                              · have b1 : ((i : Int) == (m : Int)) = false := beq_eq_false_iff_ne.2 (by omega)
                                go_wp2
                                clear g2
                                go_loopw [14] (Ch2Rel W6 w.heap.size W0.heap.size g bs2 cp2 (swt S m cc i) R n m i y) (fun v _ => n - (intOf v).toNat)
                                case atStart => exact ⟨0, Nat.zero_le _, rfl, HT6.out.congr fun i' j' _ _ => by simp, Kt.refl _ _ _⟩
                                case round =>
                                  clear g1
                                  obtain ⟨jj, hjj, rfl, hT7, hK7⟩ := hrel
                                  have g1 := hT7.rowc hiR
                                  by_cases hjn2 : jj < n
                                  · have g2 := hT7.byc hiR hjn2
                                    have g3 := hT7.byf hiR hjn2
                                    have g4 := hT7.rowc hmR
                                    have g5 := hT7.byc hmR hjn2
                                    simp only [Nat.lt_irrefl, and_false, if_false] at g2 g5
                                    rw [swt_at] at g2
                                    rw [swt_own] at g5
                                    have hbl := hT7.blo i hiR
                                    obtain ⟨u, hu⟩ : ∃ u, u = S i jj := ⟨_, rfl⟩
                                    obtain ⟨v, hv⟩ : ∃ v, v = S m jj := ⟨_, rfl⟩
                                    rw [← hu] at g2
                                    rw [← hv] at g5
                                    have hub : u < 256 := by rw [hu]; exact hSb _ _
                                    have hvb : v < 256 := by rw [hv]; exact hSb _ _
                                    have HU := Lib.hid hu
                                    have HV := Lib.hid hv
                                    have HS := Lib.hid ((hT7.drewN 1).put hiR hjn2 (u ^^^ Gf.gm y v))
                                    have HK7 := Lib.hid ((hK7.drewN 1).set (p := ⟨bs2 i, jj, none⟩) hbl (.int .u8 ((u ^^^ Gf.gm y v : Nat) : Int)))
                                    have hxor : bits .xor .u8 (u : Int) (Gf.gm y v : Int) = ((u ^^^ Gf.gm y v : Nat) : Int) := u8_xor_nat _ _ hub (Gf.gm_lt _ _)
                                    clear hu hv hT7 hK7
                                    go_wp2
                                    go_still_tail 23, (by kernel_rfl)
                                    still_call (rmul_sti y v hyb hvb _)
                                    repeat still_step
                                    refine wpStill_nil ?_
                                    change wpList _ _ _ _ _ wr.drew
                                    go_wp2
                                    go_roundw
                                    case rel => exact ⟨jj + 1, by omega, by go_num, HS.out.congr fun i' j' _ _ => by
                                        rw [swt_at, swt_own]
                                        by_cases e : i' = i
                                        · subst e
                                          by_cases e2 : j' = jj
                                          · subst e2; simp [HU.out, HV.out]
                                          · simp only [true_and, if_neg e2]
                                            by_cases e3 : j' < jj
                                            · rw [if_pos e3, if_pos (by omega)]
                                            · rw [if_neg e3, if_neg (by omega)]
                                        · simp [e], HK7.out⟩
                                    case measure => simp [intOf]; omega
                                  · have HT7 := Lib.hid hT7
                                    have HK7 := Lib.hid (HK6.out.trans hK7)
                                    clear hT7 hK7
                                    go_wp2
                                    go_roundw
                                    case rel => exact ⟨i + 1, by omega, by go_num, HT7.out.congr fun i' j' _ hj' => by
                                        rw [← swt_next eim i' j', ← HY.out]
                                        by_cases e : i' = i
                                        · rw [if_pos ⟨e, by omega⟩, if_pos e]
                                        · rw [if_neg (fun h => e h.1), if_neg e], HK7.out⟩
                                    case measure => simp [intOf]; omega
                            · have T8 : Tab wr w.heap.size W0.heap.size g bs2 cp2 (Sv.nxt N m t cc) R n := hT6.congr fun i' j' hi' _ => by
                                rw [HNX.out]
                                unfold swt
                                rw [if_pos (by omega)]
                              have HT8 := Lib.hid T8
                              have HK8 := Lib.hid (HK5.out.trans hK6)
                              have HO8 := Lib.hid (HO5.out.kt hK6 (Nat.le_refl _))
                              clear T8 hT6 hK6
                              have hs8 := HK8.out.size
                              go_wp2_with (at_builtin; refine wpList_append_own _ rfl (.tmp 163) (.tmp 165) 30 rfl W0.heap.size 3 i2 (.int .i64 0) 1 8 Try.underlying30 hk0 hk1 hk2 hk3 rfl (by decide) (.slice Ao m cl) m (ints L) rfl (by rw [HM.out]; exact HO8.out.alloc _) ⟨wr.heap.size, 0, none⟩ 1 1 [.int .i64 (cc : Int)] rfl rfl (fun j u hj => by
                                match j, hj with
                                | 0, hj => simp at hj; subst hj; exact cell_new wr _ _) (fun u hu => by simp at hu; subst hu; rfl) (by simp only [maxLen]; omega) (by omega) (by rw [World.size_alloc]; omega) ?_; intro v' w6 hown6 hgr6 _)
                              obtain ⟨A9, cl9, rfl, hO9, hT9, hK9⟩ := OwnI.app HT8.out HK8.out (Nat.le_refl _) HO8.out hown6 hgr6
                              have HO9 := Lib.hid hO9
                              have HT9 := Lib.hid hT9
                              have HK9 := Lib.hid hK9
                              clear hO9 hT9 hK9 hown6 hgr6
                              go_wp2
                              go_roundw
                              case rel => exact ⟨cc + 1, bs2, cp2, A9, cl9, by omega, by go_num, by rw [HRS.out], by rw [HRS.out]; exact HO9.out, by rw [HRS.out, ← HM.out]; exact HT9.out, HK9.out⟩
                              case measure => simp [intOf]; omega
            · have ec : cc = n := by omega
              subst ec
              have HO := Lib.hid (hO.rebase hBs)
              have HK := Lib.hid (hK.below hBs)
              clear hT hK hO hE hcl
              go_wp2
              go_ret2
              exact ⟨some ⟨g, 0, none⟩, Ao, cm, cl, by rw [← HME.out]; rfl, by rw [← HME.out]; exact HO.out, HB.out.trans HK.out⟩
end Go.Proofs.Ytkgbmkbbkaifmaa
