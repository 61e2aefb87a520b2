/- What the definition's Mac does: the mark of bytes by a key. -/
import Derived.Test.YtfemcofjhcanhaaDoorMam
import Derived.Test.YtfemcofjhcanhaaDoorAbx
import Derived.Test.YtfemcofjhcanhaaDoorShs
namespace Go.Proofs.YtfemcofjhcanhaaDoor
open Go.RowKit Go.Shelf Gw Pol Sh
def RmRel (w1 : World) (M1 M2 : List Nat) (v5 v6 i : Value) (wr : World) : Prop := ∃ (j : Nat) (A5 : Option Addr) (c5 : Nat) (A6 : Option Addr) (c6 : Nat), j ≤ 64 ∧ i = .int .i64 (j : Int) ∧ v5 = .slice A5 j c5 ∧ v6 = .slice A6 j c6 ∧
  AB w1.heap.size 5 wr A5 c5 (M1.take j) A6 c6 (M2.take j) ∧ Below w1.heap.size w1 wr
set_option maxRecDepth 100000 in
set_option maxHeartbeats 4000000 in
theorem rmac_any (A : Option Addr) (c n : Nat) (k : List Nat) (A' : Option Addr) (c' n' : Nat) (b : List Nat) (w : World) (hn : n = k.length) (hn' : n' = b.length) (hI : In w w.heap.size A c k) (hI' : In w w.heap.size A' c' b) (hcm : k.length ≤ 140737488351300) (hcm' : b.length ≤ 140737488351236) :
    Calls Tryd.prog 9 #[.slice A n c, .slice A' n' c'] w fun e w' => ∃ A2 c2, e = .returned (.slice A2 32 c2) ∧ Gw.Own w' w.heap.size 5 A2 c2 (hm k b) ∧ Below w.heap.size w w' := by
  obtain ⟨i0, hi0, hz0, hz1, hz2⟩ := info_parts byte_info
  have HN' := Lib.hid hn'
  have hn2 : n ≤ 140737488351300 := by omega
  by_cases h64 : 64 < k.length
  · have HMK := Lib.hid (show mk k = sum k by rw [mk, if_pos h64])
    have HT := Lib.hid (rsum_any A c k w hI hcm)
    rw [← hn] at HT
    have hgt : (64 : Int) < (n : Int) := by omega
    have HII := Lib.hid hI'
    clear hn hn' h64 hI hI' hcm
    go_enter Tryd.func9, Tryd.ntmps9
    go_wp2_with fail
    refine HT.out.mono ?_
    rintro e w1 ⟨A3, c3, rfl, hown3, hB3⟩
    obtain ⟨NK, hNK⟩ : ∃ N, N = 32 := ⟨_, rfl⟩
    have HKI := Lib.hid (show In w1 w1.heap.size A3 c3 (mk k) by rw [HMK.out]; exact hown3.inn)
    have HKN := Lib.hid (show NK = (mk k).length by rw [HMK.out, sum_len]; exact hNK)
    have HBW := Lib.hid hB3
    have HI2 := Lib.hid ((HII.out.below hB3).more hB3.size)
    have hnk : NK ≤ 64 := by omega
    rw [← hNK]
    clear hown3 hB3 HT HII HMK hNK
    go_wp2
    go_loopw [5, 6, 7] (RmRel w1 (mp (mb k) 54) (mp (mb k) 92)) (fun _ _ i _ => 64 - (intOf i).toNat)
    case atStart => exact ⟨0, none, 0, none, 0, by omega, rfl, rfl, rfl, AB.start _ _ _, Below.refl _ _⟩
    case round =>
      obtain ⟨j, A5, c5, A6, c6, hj, rfl, rfl, rfl, hAB, hbel⟩ := hrel
      by_cases hj64 : j < 64
      · by_cases hjn : j < NK
        · have hjn' : (j : Int) < (NK : Int) := by omega
          obtain ⟨y, b1, off1, hy1, hyb, hA1, _, hcell⟩ := (HKI.out.below hbel).sl.at_ (k := j) (by rw [← HKN.out]; exact hjn)
          subst hA1
          have HS1 := Lib.hid (show (mp (mb k) 54).take (j + 1) = (mp (mb k) 54).take j ++ [y ^^^ 54] by rw [mp_step (by rw [mb_len]; exact hj64), mb_co, co_of' hy1])
          have HS2 := Lib.hid (show (mp (mb k) 92).take (j + 1) = (mp (mb k) 92).take j ++ [y ^^^ 92] by rw [mp_step (by rw [mb_len]; exact hj64), mb_co, co_of' hy1])
          have e1 : bits .xor .u8 (y : Int) 54 = ((y ^^^ 54 : Nat) : Int) := u8_xor_nat y 54 hyb (by omega)
          have e2 : bits .xor .u8 (y : Int) 92 = ((y ^^^ 92 : Nat) : Int) := u8_xor_nat y 92 hyb (by omega)
          have hq1 : y ^^^ 54 < 256 := Nat.xor_lt_two_pow (n := 8) hyb (by omega)
          have hq2 : y ^^^ 92 < 256 := Nat.xor_lt_two_pow (n := 8) hyb (by omega)
          obtain ⟨q1, hq1'⟩ : ∃ q, q = y ^^^ 54 := ⟨_, rfl⟩
          obtain ⟨q2, hq2'⟩ : ∃ q, q = y ^^^ 92 := ⟨_, rfl⟩
          rw [← hq1'] at HS1 e1 hq1
          rw [← hq2'] at HS2 e2 hq2
          clear hq1' hq2' hy1 hyb
          have hlen1 : j = ((mp (mb k) 54).take j).length := by rw [List.length_take, mp_len, mb_len]; omega
          have hlen2 : j = ((mp (mb k) 92).take j).length := by rw [List.length_take, mp_len, mb_len]; omega
          obtain ⟨L1, hL1⟩ : ∃ L, L = (mp (mb k) 54).take j := ⟨_, rfl⟩
          obtain ⟨L2, hL2⟩ : ∃ L, L = (mp (mb k) 92).take j := ⟨_, rfl⟩
          rw [← hL1] at hAB hlen1 HS1
          rw [← hL2] at hAB hlen2 HS2
          have hO1 : (wr.alloc (.cells #[.int .u8 (q1 : Int)] 5)).ownsRow w1.heap.size 5 1 (.slice A5 j c5) j (bys L1) := by
            have := (hAB.a.alloc (.cells #[.int .u8 (q1 : Int)] 5)).1
            rwa [← hlen1] at this
          have HO1 := Lib.hid hO1
          have HAB := Lib.hid hAB
          have HL1 := Lib.hid hlen1
          have HL2 := Lib.hid hlen2
          have HBEL := Lib.hid hbel
          have hbs := hbel.size
          clear hO1 hAB hL1 hL2 hlen1 hlen2
          go_wp2_with (first
            | (at_builtin; refine wpList_append_own_at _ rfl (.tmp 26) (.tmp 29) 22 rfl w1.heap.size 5 i0 (.int .u8 0) 1 1 Tryd.underlying22 hi0 hz0 hz1 hz2 rfl (by decide) (.slice A5 j c5) j (bys L1) rfl HO1.out ⟨wr.heap.size, 0, none⟩ 1 1 [.int .u8 (q1 : Int)] rfl rfl (news_one (cell_new wr _ _)) (fun u hu => by simp at hu; subst hu; rfl) (by simp only [maxLen]; omega) (by omega) (by rw [World.size_alloc]; omega) ?_
               intro v2 w2 hown2 hgr2 _ hat2
               obtain ⟨A7, c7, rfl, hAB2⟩ := (HAB.out.alloc _).app hq1 hown2 hgr2 hat2
               have hb2 : Below w1.heap.size w1 w2 := (HAB.out.alloc (.cells #[.int .u8 (q1 : Int)] 5)).below (HBEL.out.alloc hbs _) (by rw [World.size_alloc]; omega) hgr2
               have hbs2 := hb2.size
               have HO2 := Lib.hid (show (w2.alloc (.cells #[.int .u8 (q2 : Int)] 5)).ownsRow w1.heap.size 5 1 (.slice A6 j c6) j (bys L2) by
                 have := (hAB2.b.alloc (.cells #[.int .u8 (q2 : Int)] 5)).1
                 rwa [← HL2.out] at this))
            | (at_builtin; refine wpList_append_own_at _ rfl (.tmp 31) (.tmp 34) 22 rfl w1.heap.size 5 i0 (.int .u8 0) 1 1 Tryd.underlying22 hi0 hz0 hz1 hz2 rfl (by decide) (.slice A6 j c6) j (bys L2) rfl HO2.out ⟨w2.heap.size, 0, none⟩ 1 1 [.int .u8 (q2 : Int)] rfl rfl (news_one (cell_new w2 _ _)) (fun u hu => by simp at hu; subst hu; rfl) (by simp only [maxLen]; omega) (by omega) (by rw [World.size_alloc]; omega) ?_
               intro v3 w3 hown3 hgr3 _ hat3
               obtain ⟨A8, c8, rfl, hAB3⟩ := (hAB2.swap.alloc _).app hq2 hown3 hgr3 hat3
               have hb3 : Below w1.heap.size w1 w3 := (hAB2.swap.alloc (.cells #[.int .u8 (q2 : Int)] 5)).below (hb2.alloc hbs2 _) (by rw [World.size_alloc]; omega) hgr3)
            | fail)
          have HAB3 := Lib.hid hAB3.swap
          have HB3 := Lib.hid hb3
          clear hAB3 hb3 hown2 hown3 hgr2 hgr3 hat2 hat3 hAB2 hb2 HO2 HO1
          go_roundw
          case rel => exact ⟨j + 1, A7, c7, A8, c8, by omega, by go_num, by rw [HL1.out], by rw [HL2.out], by rw [HS1.out, HS2.out]; exact HAB3.out, HB3.out⟩
          case measure => simp [intOf]; omega
        · have hjn' : ¬ (j : Int) < (NK : Int) := by omega
          have hy0 : co (mb k) j = 0 := by rw [mb_co, co_far (by rw [← HKN.out]; omega)]
          have HS1 := Lib.hid (show (mp (mb k) 54).take (j + 1) = (mp (mb k) 54).take j ++ [54] by rw [mp_step (by rw [mb_len]; exact hj64), hy0]; rfl)
          have HS2 := Lib.hid (show (mp (mb k) 92).take (j + 1) = (mp (mb k) 92).take j ++ [92] by rw [mp_step (by rw [mb_len]; exact hj64), hy0]; rfl)
          have e1 : bits .xor .u8 0 54 = 54 := rfl
          have e2 : bits .xor .u8 0 92 = 92 := rfl
          have hq1 : 54 < 256 := by omega
          have hq2 : 92 < 256 := by omega
          clear hy0
          have hlen1 : j = ((mp (mb k) 54).take j).length := by rw [List.length_take, mp_len, mb_len]; omega
          have hlen2 : j = ((mp (mb k) 92).take j).length := by rw [List.length_take, mp_len, mb_len]; omega
          obtain ⟨L1, hL1⟩ : ∃ L, L = (mp (mb k) 54).take j := ⟨_, rfl⟩
          obtain ⟨L2, hL2⟩ : ∃ L, L = (mp (mb k) 92).take j := ⟨_, rfl⟩
          rw [← hL1] at hAB hlen1 HS1
          rw [← hL2] at hAB hlen2 HS2
          have hO1 : (wr.alloc (.cells #[.int .u8 54] 5)).ownsRow w1.heap.size 5 1 (.slice A5 j c5) j (bys L1) := by
            have := (hAB.a.alloc (.cells #[.int .u8 54] 5)).1
            rwa [← hlen1] at this
          have HO1 := Lib.hid hO1
          have HAB := Lib.hid hAB
          have HL1 := Lib.hid hlen1
          have HL2 := Lib.hid hlen2
          have HBEL := Lib.hid hbel
          have hbs := hbel.size
          clear hO1 hAB hL1 hL2 hlen1 hlen2
          go_wp2_with (first
            | (at_builtin; refine wpList_append_own_at _ rfl (.tmp 26) (.tmp 29) 22 rfl w1.heap.size 5 i0 (.int .u8 0) 1 1 Tryd.underlying22 hi0 hz0 hz1 hz2 rfl (by decide) (.slice A5 j c5) j (bys L1) rfl HO1.out ⟨wr.heap.size, 0, none⟩ 1 1 [.int .u8 54] rfl rfl (news_one (cell_new wr _ _)) (fun u hu => by simp at hu; subst hu; rfl) (by simp only [maxLen]; omega) (by omega) (by rw [World.size_alloc]; omega) ?_
               intro v2 w2 hown2 hgr2 _ hat2
               obtain ⟨A7, c7, rfl, hAB2⟩ := (HAB.out.alloc _).app hq1 hown2 hgr2 hat2
               have hb2 : Below w1.heap.size w1 w2 := (HAB.out.alloc (.cells #[.int .u8 54] 5)).below (HBEL.out.alloc hbs _) (by rw [World.size_alloc]; omega) hgr2
               have hbs2 := hb2.size
               have HO2 := Lib.hid (show (w2.alloc (.cells #[.int .u8 92] 5)).ownsRow w1.heap.size 5 1 (.slice A6 j c6) j (bys L2) by
                 have := (hAB2.b.alloc (.cells #[.int .u8 92] 5)).1
                 rwa [← HL2.out] at this))
            | (at_builtin; refine wpList_append_own_at _ rfl (.tmp 31) (.tmp 34) 22 rfl w1.heap.size 5 i0 (.int .u8 0) 1 1 Tryd.underlying22 hi0 hz0 hz1 hz2 rfl (by decide) (.slice A6 j c6) j (bys L2) rfl HO2.out ⟨w2.heap.size, 0, none⟩ 1 1 [.int .u8 92] rfl rfl (news_one (cell_new w2 _ _)) (fun u hu => by simp at hu; subst hu; rfl) (by simp only [maxLen]; omega) (by omega) (by rw [World.size_alloc]; omega) ?_
               intro v3 w3 hown3 hgr3 _ hat3
               obtain ⟨A8, c8, rfl, hAB3⟩ := (hAB2.swap.alloc _).app hq2 hown3 hgr3 hat3
               have hb3 : Below w1.heap.size w1 w3 := (hAB2.swap.alloc (.cells #[.int .u8 92] 5)).below (hb2.alloc hbs2 _) (by rw [World.size_alloc]; omega) hgr3)
            | fail)
          have HAB3 := Lib.hid hAB3.swap
          have HB3 := Lib.hid hb3
          clear hAB3 hb3 hown2 hown3 hgr2 hgr3 hat2 hat3 hAB2 hb2 HO2 HO1
          go_roundw
          case rel => exact ⟨j + 1, A7, c7, A8, c8, by omega, by go_num, by rw [HL1.out], by rw [HL2.out], by rw [HS1.out, HS2.out]; exact HAB3.out, HB3.out⟩
          case measure => simp [intOf]; omega
      · obtain rfl : j = 64 := by omega
        have e1 : (mp (mb k) 54).take 64 = mp (mb k) 54 := List.take_of_length_le (by rw [mp_len, mb_len]; omega)
        have e2 : (mp (mb k) 92).take 64 = mp (mb k) 92 := List.take_of_length_le (by rw [mp_len, mb_len]; omega)
        rw [e1, e2] at hAB
        obtain ⟨L1, hL1⟩ : ∃ L, L = mp (mb k) 54 := ⟨_, rfl⟩
        obtain ⟨L2, hL2⟩ : ∃ L, L = mp (mb k) 92 := ⟨_, rfl⟩
        have HL1 := Lib.hid (show 64 = L1.length by rw [hL1, mp_len, mb_len])
        have HL2 := Lib.hid (show 64 = L2.length by rw [hL2, mp_len, mb_len])
        have HHM := Lib.hid (show hm k b = sum (L2 ++ sum (L1 ++ b)) by rw [hm, hL1, hL2])
        rw [← hL1, ← hL2] at hAB
        have HAB := Lib.hid hAB
        have HBEL := Lib.hid hbel
        have hbs := hbel.size
        have HSB := Lib.hid ((HI2.out.below hbel).sl)
        have HN0 := Lib.hid HI2.out.none_
        have HLB := Lib.hid (show (L1 ++ b).length ≤ 140737488351300 by rw [List.length_append, ← HL1.out]; omega)
        clear hL1 hL2 e1 e2 hAB hbel
        go_wp2_with (first | (at_builtin; refine wpList_app rfl (.tmp 37) (.tmp 38) 22 rfl w1.heap.size 5 i0 _ Tryd.underlying22 hi0 hz0 hz1 hz2 rfl A5 64 c5 L1 rfl HL1.out HAB.out.a w1.heap.size A' n' c' b rfl HN'.out HN0.out HSB.out (by have := HLB.out; rw [List.length_append] at this; omega) hbs ?_; intro A7 c7 w2 hown2 hgr2) | fail)
        have hO6 := HAB.out.other hgr2
        have hb2 := below_app0 HBEL.out hbs HAB.out.a hgr2
        have HT2 := Lib.hid (rsum_any A7 c7 (L1 ++ b) w2 hown2.inn HLB.out)
        rw [List.length_append] at HT2
        clear hown2 hgr2
        refine HT2.out.mono ?_
        rintro e w3 ⟨A8, c8, rfl, hown3, hB3⟩
        have hO6' := Lib.hid (hO6.kept hB3)
        have hbs2 := hb2.size
        have HB3 := Lib.hid (hb2.trans (hB3.mono hbs2))
        have hbs3 := HB3.out.size
        have HS8 := Lib.hid hown3.sl
        have HLC := Lib.hid (show (L2 ++ sum (L1 ++ b)).length ≤ 140737488351300 by rw [List.length_append, ← HL2.out, sum_len]; omega)
        have HSL := Lib.hid (sum_len (L1 ++ b))
        have HN8 := Lib.hid hown3.inn.none_
        clear hO6 hb2 hown3 hB3 HT2
        go_wp2_with (first | (at_builtin; refine wpList_app rfl (.tmp 36) (.tmp 40) 22 rfl w1.heap.size 5 i0 _ Tryd.underlying22 hi0 hz0 hz1 hz2 rfl A6 64 c6 L2 rfl HL2.out hO6'.out w3.heap.size A8 32 c8 (sum (L1 ++ b)) rfl HSL.out.symm HN8.out HS8.out (by have := HLC.out; rw [List.length_append] at this; omega) hbs3 ?_; intro A9 c9 w4 hown4 hgr4) | fail)
        have hb4 := below_app0 HB3.out hbs3 hO6'.out hgr4
        have HT4 := Lib.hid (rsum_any A9 c9 (L2 ++ sum (L1 ++ b)) w4 hown4.inn HLC.out)
        rw [List.length_append] at HT4
        clear hown4 hgr4
        refine HT4.out.mono ?_
        rintro e w5 ⟨A10, c10, rfl, hown5, hB5⟩
        have hsw := HBW.out.size
        have HO5 := Lib.hid (hown5.base (Nat.le_trans hsw hb4.size))
        have HB5 := Lib.hid (HBW.out.trans ((hb4.trans (hB5.mono hb4.size)).mono hsw))
        clear hown5 hB5 hb4 HT4
        go_wp2
        go_ret
        exact ⟨A10, c10, rfl, by rw [HHM.out]; exact HO5.out, HB5.out⟩
  · have HMK := Lib.hid (show mk k = k by rw [mk, if_neg h64])
    have hle : ¬ (64 : Int) < (n : Int) := by omega
    have hnk : n ≤ 64 := by omega
    have HKI := Lib.hid (show In w w.heap.size A c (mk k) by rw [HMK.out]; exact hI)
    have HKN := Lib.hid (show n = (mk k).length by rw [HMK.out]; exact hn)
    have HBW := Lib.hid (Below.refl w.heap.size w)
    have HI2 := Lib.hid hI'
    clear hn hn' h64 hI hI' hcm HMK
    go_enter Tryd.func9, Tryd.ntmps9
    go_wp2
    go_loopw [5, 6, 7] (RmRel w (mp (mb k) 54) (mp (mb k) 92)) (fun _ _ i _ => 64 - (intOf i).toNat)
    case atStart => exact ⟨0, none, 0, none, 0, by omega, rfl, rfl, rfl, AB.start _ _ _, Below.refl _ _⟩
    case round =>
      obtain ⟨j, A5, c5, A6, c6, hj, rfl, rfl, rfl, hAB, hbel⟩ := hrel
      by_cases hj64 : j < 64
      · by_cases hjn : j < n
        · have hjn' : (j : Int) < (n : Int) := by omega
          obtain ⟨y, b1, off1, hy1, hyb, hA1, _, hcell⟩ := (HKI.out.below hbel).sl.at_ (k := j) (by rw [← HKN.out]; exact hjn)
          subst hA1
          have HS1 := Lib.hid (show (mp (mb k) 54).take (j + 1) = (mp (mb k) 54).take j ++ [y ^^^ 54] by rw [mp_step (by rw [mb_len]; exact hj64), mb_co, co_of' hy1])
          have HS2 := Lib.hid (show (mp (mb k) 92).take (j + 1) = (mp (mb k) 92).take j ++ [y ^^^ 92] by rw [mp_step (by rw [mb_len]; exact hj64), mb_co, co_of' hy1])
          have e1 : bits .xor .u8 (y : Int) 54 = ((y ^^^ 54 : Nat) : Int) := u8_xor_nat y 54 hyb (by omega)
          have e2 : bits .xor .u8 (y : Int) 92 = ((y ^^^ 92 : Nat) : Int) := u8_xor_nat y 92 hyb (by omega)
          have hq1 : y ^^^ 54 < 256 := Nat.xor_lt_two_pow (n := 8) hyb (by omega)
          have hq2 : y ^^^ 92 < 256 := Nat.xor_lt_two_pow (n := 8) hyb (by omega)
          obtain ⟨q1, hq1'⟩ : ∃ q, q = y ^^^ 54 := ⟨_, rfl⟩
          obtain ⟨q2, hq2'⟩ : ∃ q, q = y ^^^ 92 := ⟨_, rfl⟩
          rw [← hq1'] at HS1 e1 hq1
          rw [← hq2'] at HS2 e2 hq2
          clear hq1' hq2' hy1 hyb
          have hlen1 : j = ((mp (mb k) 54).take j).length := by rw [List.length_take, mp_len, mb_len]; omega
          have hlen2 : j = ((mp (mb k) 92).take j).length := by rw [List.length_take, mp_len, mb_len]; omega
          obtain ⟨L1, hL1⟩ : ∃ L, L = (mp (mb k) 54).take j := ⟨_, rfl⟩
          obtain ⟨L2, hL2⟩ : ∃ L, L = (mp (mb k) 92).take j := ⟨_, rfl⟩
          rw [← hL1] at hAB hlen1 HS1
          rw [← hL2] at hAB hlen2 HS2
          have hO1 : (wr.alloc (.cells #[.int .u8 (q1 : Int)] 5)).ownsRow w.heap.size 5 1 (.slice A5 j c5) j (bys L1) := by
            have := (hAB.a.alloc (.cells #[.int .u8 (q1 : Int)] 5)).1
            rwa [← hlen1] at this
          have HO1 := Lib.hid hO1
          have HAB := Lib.hid hAB
          have HL1 := Lib.hid hlen1
          have HL2 := Lib.hid hlen2
          have HBEL := Lib.hid hbel
          have hbs := hbel.size
          clear hO1 hAB hL1 hL2 hlen1 hlen2
          go_wp2_with (first
            | (at_builtin; refine wpList_append_own_at _ rfl (.tmp 26) (.tmp 29) 22 rfl w.heap.size 5 i0 (.int .u8 0) 1 1 Tryd.underlying22 hi0 hz0 hz1 hz2 rfl (by decide) (.slice A5 j c5) j (bys L1) rfl HO1.out ⟨wr.heap.size, 0, none⟩ 1 1 [.int .u8 (q1 : Int)] rfl rfl (news_one (cell_new wr _ _)) (fun u hu => by simp at hu; subst hu; rfl) (by simp only [maxLen]; omega) (by omega) (by rw [World.size_alloc]; omega) ?_
               intro v2 w2 hown2 hgr2 _ hat2
               obtain ⟨A7, c7, rfl, hAB2⟩ := (HAB.out.alloc _).app hq1 hown2 hgr2 hat2
               have hb2 : Below w.heap.size w w2 := (HAB.out.alloc (.cells #[.int .u8 (q1 : Int)] 5)).below (HBEL.out.alloc hbs _) (by rw [World.size_alloc]; omega) hgr2
               have hbs2 := hb2.size
               have HO2 := Lib.hid (show (w2.alloc (.cells #[.int .u8 (q2 : Int)] 5)).ownsRow w.heap.size 5 1 (.slice A6 j c6) j (bys L2) by
                 have := (hAB2.b.alloc (.cells #[.int .u8 (q2 : Int)] 5)).1
                 rwa [← HL2.out] at this))
            | (at_builtin; refine wpList_append_own_at _ rfl (.tmp 31) (.tmp 34) 22 rfl w.heap.size 5 i0 (.int .u8 0) 1 1 Tryd.underlying22 hi0 hz0 hz1 hz2 rfl (by decide) (.slice A6 j c6) j (bys L2) rfl HO2.out ⟨w2.heap.size, 0, none⟩ 1 1 [.int .u8 (q2 : Int)] rfl rfl (news_one (cell_new w2 _ _)) (fun u hu => by simp at hu; subst hu; rfl) (by simp only [maxLen]; omega) (by omega) (by rw [World.size_alloc]; omega) ?_
               intro v3 w3 hown3 hgr3 _ hat3
               obtain ⟨A8, c8, rfl, hAB3⟩ := (hAB2.swap.alloc _).app hq2 hown3 hgr3 hat3
               have hb3 : Below w.heap.size w w3 := (hAB2.swap.alloc (.cells #[.int .u8 (q2 : Int)] 5)).below (hb2.alloc hbs2 _) (by rw [World.size_alloc]; omega) hgr3)
            | fail)
          have HAB3 := Lib.hid hAB3.swap
          have HB3 := Lib.hid hb3
          clear hAB3 hb3 hown2 hown3 hgr2 hgr3 hat2 hat3 hAB2 hb2 HO2 HO1
          go_roundw
          case rel => exact ⟨j + 1, A7, c7, A8, c8, by omega, by go_num, by rw [HL1.out], by rw [HL2.out], by rw [HS1.out, HS2.out]; exact HAB3.out, HB3.out⟩
          case measure => simp [intOf]; omega
        · have hjn' : ¬ (j : Int) < (n : Int) := by omega
          have hy0 : co (mb k) j = 0 := by rw [mb_co, co_far (by rw [← HKN.out]; omega)]
          have HS1 := Lib.hid (show (mp (mb k) 54).take (j + 1) = (mp (mb k) 54).take j ++ [54] by rw [mp_step (by rw [mb_len]; exact hj64), hy0]; rfl)
          have HS2 := Lib.hid (show (mp (mb k) 92).take (j + 1) = (mp (mb k) 92).take j ++ [92] by rw [mp_step (by rw [mb_len]; exact hj64), hy0]; rfl)
          have e1 : bits .xor .u8 0 54 = 54 := rfl
          have e2 : bits .xor .u8 0 92 = 92 := rfl
          have hq1 : 54 < 256 := by omega
          have hq2 : 92 < 256 := by omega
          clear hy0
          have hlen1 : j = ((mp (mb k) 54).take j).length := by rw [List.length_take, mp_len, mb_len]; omega
          have hlen2 : j = ((mp (mb k) 92).take j).length := by rw [List.length_take, mp_len, mb_len]; omega
          obtain ⟨L1, hL1⟩ : ∃ L, L = (mp (mb k) 54).take j := ⟨_, rfl⟩
          obtain ⟨L2, hL2⟩ : ∃ L, L = (mp (mb k) 92).take j := ⟨_, rfl⟩
          rw [← hL1] at hAB hlen1 HS1
          rw [← hL2] at hAB hlen2 HS2
          have hO1 : (wr.alloc (.cells #[.int .u8 54] 5)).ownsRow w.heap.size 5 1 (.slice A5 j c5) j (bys L1) := by
            have := (hAB.a.alloc (.cells #[.int .u8 54] 5)).1
            rwa [← hlen1] at this
          have HO1 := Lib.hid hO1
          have HAB := Lib.hid hAB
          have HL1 := Lib.hid hlen1
          have HL2 := Lib.hid hlen2
          have HBEL := Lib.hid hbel
          have hbs := hbel.size
          clear hO1 hAB hL1 hL2 hlen1 hlen2
          go_wp2_with (first
            | (at_builtin; refine wpList_append_own_at _ rfl (.tmp 26) (.tmp 29) 22 rfl w.heap.size 5 i0 (.int .u8 0) 1 1 Tryd.underlying22 hi0 hz0 hz1 hz2 rfl (by decide) (.slice A5 j c5) j (bys L1) rfl HO1.out ⟨wr.heap.size, 0, none⟩ 1 1 [.int .u8 54] rfl rfl (news_one (cell_new wr _ _)) (fun u hu => by simp at hu; subst hu; rfl) (by simp only [maxLen]; omega) (by omega) (by rw [World.size_alloc]; omega) ?_
               intro v2 w2 hown2 hgr2 _ hat2
               obtain ⟨A7, c7, rfl, hAB2⟩ := (HAB.out.alloc _).app hq1 hown2 hgr2 hat2
               have hb2 : Below w.heap.size w w2 := (HAB.out.alloc (.cells #[.int .u8 54] 5)).below (HBEL.out.alloc hbs _) (by rw [World.size_alloc]; omega) hgr2
               have hbs2 := hb2.size
               have HO2 := Lib.hid (show (w2.alloc (.cells #[.int .u8 92] 5)).ownsRow w.heap.size 5 1 (.slice A6 j c6) j (bys L2) by
                 have := (hAB2.b.alloc (.cells #[.int .u8 92] 5)).1
                 rwa [← HL2.out] at this))
            | (at_builtin; refine wpList_append_own_at _ rfl (.tmp 31) (.tmp 34) 22 rfl w.heap.size 5 i0 (.int .u8 0) 1 1 Tryd.underlying22 hi0 hz0 hz1 hz2 rfl (by decide) (.slice A6 j c6) j (bys L2) rfl HO2.out ⟨w2.heap.size, 0, none⟩ 1 1 [.int .u8 92] rfl rfl (news_one (cell_new w2 _ _)) (fun u hu => by simp at hu; subst hu; rfl) (by simp only [maxLen]; omega) (by omega) (by rw [World.size_alloc]; omega) ?_
               intro v3 w3 hown3 hgr3 _ hat3
               obtain ⟨A8, c8, rfl, hAB3⟩ := (hAB2.swap.alloc _).app hq2 hown3 hgr3 hat3
               have hb3 : Below w.heap.size w w3 := (hAB2.swap.alloc (.cells #[.int .u8 92] 5)).below (hb2.alloc hbs2 _) (by rw [World.size_alloc]; omega) hgr3)
            | fail)
          have HAB3 := Lib.hid hAB3.swap
          have HB3 := Lib.hid hb3
          clear hAB3 hb3 hown2 hown3 hgr2 hgr3 hat2 hat3 hAB2 hb2 HO2 HO1
          go_roundw
          case rel => exact ⟨j + 1, A7, c7, A8, c8, by omega, by go_num, by rw [HL1.out], by rw [HL2.out], by rw [HS1.out, HS2.out]; exact HAB3.out, HB3.out⟩
          case measure => simp [intOf]; omega
      · obtain rfl : j = 64 := by omega
        have e1 : (mp (mb k) 54).take 64 = mp (mb k) 54 := List.take_of_length_le (by rw [mp_len, mb_len]; omega)
        have e2 : (mp (mb k) 92).take 64 = mp (mb k) 92 := List.take_of_length_le (by rw [mp_len, mb_len]; omega)
        rw [e1, e2] at hAB
        obtain ⟨L1, hL1⟩ : ∃ L, L = mp (mb k) 54 := ⟨_, rfl⟩
        obtain ⟨L2, hL2⟩ : ∃ L, L = mp (mb k) 92 := ⟨_, rfl⟩
        have HL1 := Lib.hid (show 64 = L1.length by rw [hL1, mp_len, mb_len])
        have HL2 := Lib.hid (show 64 = L2.length by rw [hL2, mp_len, mb_len])
        have HHM := Lib.hid (show hm k b = sum (L2 ++ sum (L1 ++ b)) by rw [hm, hL1, hL2])
        rw [← hL1, ← hL2] at hAB
        have HAB := Lib.hid hAB
        have HBEL := Lib.hid hbel
        have hbs := hbel.size
        have HSB := Lib.hid ((HI2.out.below hbel).sl)
        have HN0 := Lib.hid HI2.out.none_
        have HLB := Lib.hid (show (L1 ++ b).length ≤ 140737488351300 by rw [List.length_append, ← HL1.out]; omega)
        clear hL1 hL2 e1 e2 hAB hbel
        go_wp2_with (first | (at_builtin; refine wpList_app rfl (.tmp 37) (.tmp 38) 22 rfl w.heap.size 5 i0 _ Tryd.underlying22 hi0 hz0 hz1 hz2 rfl A5 64 c5 L1 rfl HL1.out HAB.out.a w.heap.size A' n' c' b rfl HN'.out HN0.out HSB.out (by have := HLB.out; rw [List.length_append] at this; omega) hbs ?_; intro A7 c7 w2 hown2 hgr2) | fail)
        have hO6 := HAB.out.other hgr2
        have hb2 := below_app0 HBEL.out hbs HAB.out.a hgr2
        have HT2 := Lib.hid (rsum_any A7 c7 (L1 ++ b) w2 hown2.inn HLB.out)
        rw [List.length_append] at HT2
        clear hown2 hgr2
        refine HT2.out.mono ?_
        rintro e w3 ⟨A8, c8, rfl, hown3, hB3⟩
        have hO6' := Lib.hid (hO6.kept hB3)
        have hbs2 := hb2.size
        have HB3 := Lib.hid (hb2.trans (hB3.mono hbs2))
        have hbs3 := HB3.out.size
        have HS8 := Lib.hid hown3.sl
        have HLC := Lib.hid (show (L2 ++ sum (L1 ++ b)).length ≤ 140737488351300 by rw [List.length_append, ← HL2.out, sum_len]; omega)
        have HSL := Lib.hid (sum_len (L1 ++ b))
        have HN8 := Lib.hid hown3.inn.none_
        clear hO6 hb2 hown3 hB3 HT2
        go_wp2_with (first | (at_builtin; refine wpList_app rfl (.tmp 36) (.tmp 40) 22 rfl w.heap.size 5 i0 _ Tryd.underlying22 hi0 hz0 hz1 hz2 rfl A6 64 c6 L2 rfl HL2.out hO6'.out w3.heap.size A8 32 c8 (sum (L1 ++ b)) rfl HSL.out.symm HN8.out HS8.out (by have := HLC.out; rw [List.length_append] at this; omega) hbs3 ?_; intro A9 c9 w4 hown4 hgr4) | fail)
        have hb4 := below_app0 HB3.out hbs3 hO6'.out hgr4
        have HT4 := Lib.hid (rsum_any A9 c9 (L2 ++ sum (L1 ++ b)) w4 hown4.inn HLC.out)
        rw [List.length_append] at HT4
        clear hown4 hgr4
        refine HT4.out.mono ?_
        rintro e w5 ⟨A10, c10, rfl, hown5, hB5⟩
        have hsw := HBW.out.size
        have HO5 := Lib.hid (hown5.base (Nat.le_trans hsw hb4.size))
        have HB5 := Lib.hid (HBW.out.trans ((hb4.trans (hB5.mono hb4.size)).mono hsw))
        clear hown5 hB5 hb4 HT4
        go_wp2
        go_ret
        exact ⟨A10, c10, rfl, by rw [HHM.out]; exact HO5.out, HB5.out⟩
end Go.Proofs.YtfemcofjhcanhaaDoor
