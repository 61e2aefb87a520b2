/- What solve's sweep does: a row of the table is made 1 in a column, and taken off all others. -/
import Derived.Test.YtkgbmkbbkaifmaaSvc
import Derived.WalkMore
import Derived.Deep.DeepCutAuto
namespace Go.Proofs.Ytkgbmkbbkaifmaa
open Go.RowKit Go.Shelf Gw Pol

/-- The first t rows are done. -/
def swt (S : Sv.Mx) (k c t : Nat) : Sv.Mx := fun i j => if i < t then Sv.swe S k c i j else S i j
theorem swt_b {S : Sv.Mx} (h : Sv.Bm S) (k c t : Nat) : Sv.Bm (swt S k c t) := fun i j => by unfold swt; split; exact Sv.swe_b h k c i j; exact h i j
theorem swt_at (S : Sv.Mx) (k c t j : Nat) : swt S k c t t j = S t j := by unfold swt; rw [if_neg (by omega)]
theorem swt_own (S : Sv.Mx) (k c t j : Nat) : swt S k c t k j = S k j := by unfold swt; split; simp [Sv.swe]; rfl
theorem swt_skip {S : Sv.Mx} {k c t : Nat} (h : t = k ∨ S t c = 0) (i j : Nat) : swt S k c t i j = swt S k c (t + 1) i j := by
  unfold swt
  by_cases e : i = t
  · subst e
    rw [if_neg (by omega), if_pos (by omega)]
    unfold Sv.swe
    rcases h with h | h
    · rw [if_pos h]
    · split
      · rfl
      · rw [h, Gf.gm_zero_left, Nat.xor_zero]
  · by_cases e2 : i < t
    · rw [if_pos e2, if_pos (by omega)]
    · rw [if_neg e2, if_neg (by omega)]
theorem swt_next {S : Sv.Mx} {k c t : Nat} (h : t ≠ k) (i j : Nat) : (if i = t then swt S k c t t j ^^^ Gf.gm (S t c) (swt S k c t k j) else swt S k c t i j) = swt S k c (t + 1) i j := by
  rw [swt_at, swt_own]
  by_cases e : i = t
  · subst e
    rw [if_pos rfl]
    unfold swt Sv.swe
    rw [if_pos (by omega), if_neg h]
  · rw [if_neg e]
    unfold swt
    by_cases e2 : i < t
    · rw [if_pos e2, if_pos (by omega)]
    · rw [if_neg e2, if_neg (by omega)]
def SwRel (W : World) (lo hi g : Nat) (bs cp : Nat → Nat) (S : Sv.Mx) (R n k c : Nat) (i : Value) (wr : World) : Prop :=
  ∃ t : Nat, t ≤ R ∧ i = .int .i64 (t : Int) ∧ Tab wr lo hi g bs cp (swt S k c t) R n ∧ Kt lo hi W wr

set_option maxRecDepth 100000 in
set_option maxHeartbeats 4000000 in
theorem sweep_any (bf lo hi g R n k c cc : Nat) (bs cp : Nat → Nat) (M : Sv.Mx) (w : World) (hT : Tab w lo hi g bs cp M R n) (hF : IsField w bf) (hbf : bf < lo) (hk : k < R) (hc : c < n) (hn : n ≤ 4294967296) (hR : R ≤ 4294967296) (hM : Sv.Bm M) :
    Calls Try.prog 26 #[.pointer (some ⟨bf, 0, none⟩), .slice (some ⟨g, 0, none⟩) R cc, .int .i64 (k : Int), .int .i64 (c : Int)] w fun e w' =>
      e = .returned (.tuple #[]) ∧ Tab w' lo hi g bs cp (Sv.swe (Sv.scl M k c) k c) R n ∧ Kt lo hi w w' := by
  have c1 : ∀ o, (w.alloc o).cell? ⟨g, k, none⟩ = some (.slice (some ⟨bs k, 0, none⟩) n (cp k)) := fun o => (hT.alloc o).rowc hk
  have hs := hT.his
  have hlf := hF.lt
  go_enter Try.func26, Try.ntmps26
  go_wp2
  go_step3
  go_wp2
  clear c1
  obtain ⟨W3, hW3⟩ : ∃ W3, W3 = (w.alloc (.cells #[.pointer (some ⟨bf, 0, none⟩)] 28)).alloc (.cells #[.slice (some ⟨bs k, 0, none⟩) n (cp k)] 23) := ⟨_, rfl⟩
  rw [← hW3]
  have T3 : Tab W3 lo hi g bs cp M R n := by rw [hW3]; exact (hT.alloc _).alloc _
  have K3 : Kt lo hi w W3 := by rw [hW3]; exact ((Kt.refl lo hi w).alloc _).alloc _
  have F3 : IsField W3 bf := hF.kt K3 (by omega)
  have x1 : W3.cell? ⟨w.heap.size, 0, none⟩ = some (.pointer (some ⟨bf, 0, none⟩)) := by
    rw [hW3, World.cell?_alloc_lt _ _ _ (by rw [World.size_alloc]; exact Nat.lt_succ_self _)]; exact cell_new w _ _
  have x2 : W3.cell? ⟨w.heap.size + 1, 0, none⟩ = some (.slice (some ⟨bs k, 0, none⟩) n (cp k)) := by
    rw [hW3]; have := cell_new (w.alloc (.cells #[.pointer (some ⟨bf, 0, none⟩)] 28)) (.slice (some ⟨bs k, 0, none⟩) n (cp k)) 23; rw [World.size_alloc] at this; exact this
  have s3 := K3.size
  clear hW3
  have x3 := T3.byc hk hc
  obtain ⟨a, ha⟩ : ∃ a, a = M k c := ⟨_, rfl⟩
  rw [← ha] at x3
  have ha2 : a < 256 := by rw [ha]; exact hM _ _
  have HA := Lib.hid ha
  clear ha
  have T4 := Lib.hid (fun q => (T3.drewN q).alloc (.cells #[.int .u8 (Gf.inv a : Int)] 5))
  have HT3 := Lib.hid T3
  have y1 : ∀ q, ((W3.drewN q).alloc (.cells #[.int .u8 0] 5)).cell? ⟨W3.heap.size, 0, none⟩ = some (.int .u8 0) := fun q => cell_new (W3.drewN q) _ _
  have y2 : ∀ q, ((W3.drewN q).alloc (.cells #[.int .u8 0] 5)).frozen? ⟨W3.heap.size, 0, none⟩ = false := fun q => World.frozen?_alloc_new (W3.drewN q) _ _ 0
  have y3 : (W3.alloc (.cells #[.int .u8 0] 5)).cell? ⟨W3.heap.size, 0, none⟩ = some (.int .u8 0) := cell_new W3 _ _
  have y4 : (W3.alloc (.cells #[.int .u8 0] 5)).frozen? ⟨W3.heap.size, 0, none⟩ = false := World.frozen?_alloc_new W3 _ _ 0
  have z1 := (World.cell?_alloc_lt W3 (.cells #[.int .u8 0] 5) ⟨w.heap.size, 0, none⟩ (cell_lt x1)).trans x1
  have z2 := (World.cell?_alloc_lt W3 (.cells #[.int .u8 0] 5) ⟨w.heap.size + 1, 0, none⟩ (cell_lt x2)).trans x2
  have z3 := (World.cell?_alloc_lt W3 (.cells #[.int .u8 0] 5) ⟨bs k, c, none⟩ (cell_lt x3)).trans x3
  have F4 : IsField (W3.alloc (.cells #[.int .u8 0] 5)) bf := F3.kt ((Kt.refl lo hi W3).alloc _) (by omega)
  clear T3 hT
  have F5 : IsField W3.drew bf := F3
  have F6 : IsField (W3.alloc (.cells #[.int .u8 0] 5)).drew bf := F4
  go_cut [9] (fun s9 wx => s9 = .pointer (some ⟨W3.heap.size, 0, none⟩) ∧ ∃ q, wx = ((W3.alloc (.cells #[.int .u8 0] 5)).drewN q).setCell ⟨W3.heap.size, 0, none⟩ (.int .u8 (Gf.inv a : Int)))
  case first =>
    go_region_with (go_at_call 28; first | (refine (inv_any bf a ha2 W3.drew F5).mono ?_; rintro e w' ⟨rfl, q, rfl⟩) | (refine (inv_any bf a ha2 (W3.alloc (.cells #[.int .u8 0] 5)).drew F6).mono ?_; rintro e w' ⟨rfl, q, rfl⟩))
    all_goals (go_wp2_with fail; go_meet; exact ⟨rfl, _, rfl⟩)
  case rest =>
    obtain ⟨rfl, q, hwc⟩ := hcut
    have T5 : Tab wc lo hi g bs cp M R n := by rw [hwc]; exact (((HT3.out.alloc _).drewN q).setOld (by show hi ≤ W3.heap.size; omega) _)
    have K5 : Kt lo hi W3 wc := by rw [hwc]; exact (((Kt.refl lo hi W3).alloc _).drewN q).setNew (p := ⟨W3.heap.size, 0, none⟩) (Nat.le_refl _) _
    have v2 : wc.cell? ⟨W3.heap.size, 0, none⟩ = some (.int .u8 (Gf.inv a : Int)) := by rw [hwc]; exact World.cell?_setCell_same _ _ _ y3
    have hn1 : ¬ (lo ≤ w.heap.size ∧ w.heap.size < hi) := by omega
    have hn2 : ¬ (lo ≤ w.heap.size + 1 ∧ w.heap.size + 1 < hi) := by omega
    have v1 := K5.cell x1 hn1
    have v3 := K5.cell x2 hn2
    have F7 : IsField wc bf := F3.kt K5 (by omega)
    have KW : Kt lo hi w wc := K3.trans K5
    have s5 := KW.size
    have HC := Lib.hid (change1_any w.heap.size W3.heap.size (w.heap.size + 1) bf lo hi g R n k (Gf.inv a) bs cp M wc T5 F7 hbf hk hn hM (Gf.inv_lt _) v1 v2 v3 hs (by omega) (by omega))
    clear hwc y1 y2 y3 y4 z1 z2 z3 F4 F5 F6 HT3 T4 x1 x2 x3 F3 T5 K5 K3 v2
    go_wp2_with (go_at_call 29; refine HC.out.mono ?_; rintro e W6 ⟨rfl, T6, K6⟩)
    go_step3
    go_wp2
    obtain ⟨S, hS⟩ : ∃ S, S = Sv.scl M k c := ⟨_, rfl⟩
    have T7 : Tab W6 lo hi g bs cp (swt S k c 0) R n := T6.congr fun i j _ _ => by
      rw [hS, HA.out]; unfold swt; rw [if_neg (Nat.not_lt_zero i)]; rfl
    have hSb : Sv.Bm S := by rw [hS]; exact Sv.scl_b hM k c
    have r1 := K6.cell v1 hn1
    have r3 := K6.cell v3 hn2
    have F8 : IsField W6 bf := F7.kt K6 (by omega)
    have KW6 := KW.trans K6
    have s6 := KW6.size
    have HSC := Lib.hid hS
    have HKW := Lib.hid KW6
    clear hS HA v1 v3 F7 K6 KW KW6 T6 hM HC s5 s3 hF
    go_loopw [32] (SwRel W6 lo hi g bs cp S R n k c) (fun i _ => R - (intOf i).toNat)
    case atStart => exact ⟨0, Nat.zero_le _, rfl, T7, Kt.refl _ _ _⟩
    case round =>
      clear T7
      obtain ⟨t, ht, rfl, hTr, hK⟩ := hrel
      by_cases hlt : t < R
      · have cr := hTr.rowc hlt
        have e1 : ∀ o, (wr.alloc o).cell? ⟨bs t, c, none⟩ = some (.int .u8 (S t c : Int)) := fun o => by have := (hTr.alloc o).byc hlt hc; rw [swt_at] at this; exact this
        have hsr := hK.size
        by_cases etk : t = k
        · subst etk
          have b1 : ((t : Int) == (t : Int)) = true := by simp
          have HT := Lib.hid hTr
          have HK := Lib.hid hK
          clear hTr hK e1 r1 r3 F8
          go_wp2
          go_roundw
          case rel => exact ⟨t + 1, by omega, by go_num, (HT.out.alloc _).congr fun i j _ _ => swt_skip (.inl rfl) i j, HK.out.alloc _⟩
          case measure => simp [intOf]; omega
        · have b1 : ((t : Int) == (k : Int)) = false := beq_eq_false_iff_ne.2 (by omega)
          obtain ⟨x, hx⟩ : ∃ x, x = S t c := ⟨_, rfl⟩
          rw [← hx] at e1
          have hxb : x < 256 := by rw [hx]; exact hSb _ _
          by_cases ex : x = 0
          · subst ex
            have HX := Lib.hid hx
            have HT := Lib.hid hTr
            have HK := Lib.hid hK
            clear hTr hK hx r1 r3 F8
            go_wp2
            go_roundw
            case rel => exact ⟨t + 1, by omega, by go_num, (HT.out.alloc _).congr fun i j _ _ => swt_skip (.inr HX.out.symm) i j, HK.out.alloc _⟩
            case measure => simp [intOf]; omega
          · have b2 : ((x : Int) == 0) = false := beq_eq_false_iff_ne.2 (by omega)
            have HX := Lib.hid hx
            clear hx
            obtain ⟨W8, hW8⟩ : ∃ W8, W8 = (wr.alloc (.cells #[.slice (some ⟨bs t, 0, none⟩) n (cp t)] 23)).alloc (.cells #[.int .u8 (x : Int)] 5) := ⟨_, rfl⟩
            have T8 : Tab W8 lo hi g bs cp (swt S k c t) R n := by rw [hW8]; exact (hTr.alloc _).alloc _
            have K8 : Kt lo hi wr W8 := by rw [hW8]; exact ((Kt.refl lo hi wr).alloc _).alloc _
            have K9 : Kt lo hi W6 W8 := hK.trans K8
            have g1 : W8.cell? ⟨wr.heap.size, 0, none⟩ = some (.slice (some ⟨bs t, 0, none⟩) n (cp t)) := by
              rw [hW8, World.cell?_alloc_lt _ _ _ (by rw [World.size_alloc]; exact Nat.lt_succ_self _)]; exact cell_new wr _ _
            have g3 : W8.cell? ⟨wr.heap.size + 1, 0, none⟩ = some (.int .u8 (x : Int)) := by
              rw [hW8]; have := cell_new (wr.alloc (.cells #[.slice (some ⟨bs t, 0, none⟩) n (cp t)] 23)) (.int .u8 (x : Int)) 5; rw [World.size_alloc] at this; exact this
            have HC := Lib.hid (change2_any wr.heap.size w.heap.size (wr.heap.size + 1) (w.heap.size + 1) bf lo hi g R n k t x bs cp (swt S k c t) W8 T8 (F8.kt K9 (by omega)) hbf hk hlt etk hn (swt_b hSb k c t) hxb g1 (K9.cell r1 hn1) g3 (K9.cell r3 hn2) (by omega) hs (by omega) (by omega))
            have HK9 := Lib.hid K9
            have HW8 := Lib.hid hW8
            have g1' := g1
            rw [hW8] at g1'
            clear hW8 hTr hK T8 K8 K9 g1 g3 r1 r3 F8
            go_wp2_with (go_at_call 29; rw [← HW8.out]; refine HC.out.mono ?_; rintro e W9 ⟨rfl, T9, K10⟩)
            go_roundw
            case rel => exact ⟨t + 1, by omega, by go_num, T9.congr fun i j _ _ => by rw [HX.out]; exact swt_next etk i j, HK9.out.trans K10⟩
            case measure => simp [intOf]; omega
      · have et : t = R := by omega
        subst et
        have HT := Lib.hid hTr
        have HK := Lib.hid hK
        clear hTr hK
        go_wp2
        rw [Exit.noGoto_normal]
        go_end0
        exact ⟨rfl, HT.out.congr fun i j hi _ => by rw [← HSC.out]; unfold swt; rw [if_pos hi], HKW.out.trans HK.out⟩
end Go.Proofs.Ytkgbmkbbkaifmaa
