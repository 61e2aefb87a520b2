/- For every input BwCorrects returns true, and every argument reads behind the call as it did before: no condition. -/
import Derived.Test.YtmcfkgjkfceomaaRows
import Derived.ProofKit
import Derived.OpenShut
import Derived.SizedLaws
import Derived.ChangeOld
import Derived.Carry
import Derived.Test.YtmcfkgjkfceomaaLawb
import Derived.Test.YtmcfkgjkfceomaaBwi
namespace Go.Proofs.Ytmcfkgjkfceomaa.bwCorrects
open Go.ChangeShapes Go.WideShapes Go.ChangeAt Go.RowKit Go.Shelf Gw Pol

theorem own : ownKnob Try.prog.godebug = none := by kernel_rfl
theorem laidOut : laidOutB Try.prog = true := by kernel_rfl
theorem own_block {W : World} {base c n : Nat} {e : TypeId} {A : Option Addr} {l : List Nat} (h : Gw.Own W base e A c l) {r : Nat} (hr : (Value.slice A n c).ownBlock = some r) : base ≤ r ∧ ∃ cs, W.heap[r]? = some (.cells cs e (0, 0)) := by
  rcases h.1.2 with ⟨hv, _⟩ | ⟨g, cap, cur, hv, hb, hg, _⟩
  · injection hv with h1 _ h3; subst h1; cases hr
  · injection hv with h1 _ h3
    subst h1
    simp [Value.ownBlock] at hr
    subst hr
    exact ⟨hb, cur, hg⟩
/-- A row of bytes stands when a row of ints grows. -/
theorem own_beside {W W' : World} {base base' c c' n : Nat} {e e' : TypeId} {A A' : Option Addr} {l L : List Nat} (hne : e ≠ e') (ho : Gw.Own W base e A c l) (hj : OwnJ W base' e' A' c' L) (hg : W.grownBy W' (Value.slice A' n c').ownBlock) : Gw.Own W' base e A c l := by
  refine ⟨⟨ho.1.1, ?_⟩, ho.2⟩
  rcases ho.1.2 with h0 | ⟨k, cap, cur, hv, h1, h2, h3⟩
  · exact .inl h0
  · refine .inr ⟨k, cap, cur, hv, h1, (hg.block k (Array.getElem?_eq_some_iff.1 h2).1 (fun e9 => ?_)).trans h2, h3⟩
    obtain ⟨_, cs, h4⟩ := hj.block e9.symm
    rw [h2] at h4
    injection h4 with h4
    injection h4 with _ h5
    exact hne h5
/-- A row of ints stands when a row of bytes grows. -/
theorem ownJ_beside {W W' : World} {base base' c c' n : Nat} {e e' : TypeId} {A A' : Option Addr} {l L : List Nat} (hne : e ≠ e') (ho : Gw.Own W base e A c l) (hj : OwnJ W base' e' A' c' L) (hg : W.grownBy W' (Value.slice A n c).ownBlock) : OwnJ W' base' e' A' c' L :=
  hj.grown hg (fun b cs _ h2 e9 => by
    obtain ⟨_, cs', h4⟩ := own_block ho e9
    rw [h2] at h4
    injection h4 with h4
    injection h4 with _ h5
    exact hne h5.symm)
def CrRel (w : World) (p xs t : List Nat) (v u i : Value) (wr : World) : Prop :=
  ∃ (k : Nat) (A A' : Option Addr) (c c' : Nat), k ≤ xs.length ∧ i = .int .i64 (k : Int) ∧ v = .slice A k c ∧ u = .slice A' (wnt t k).length c' ∧ Gw.Own wr w.heap.size 5 A c (tys p xs t k) ∧ OwnJ wr w.heap.size 3 A' c' (wnt t k) ∧ Below w.heap.size w wr
set_option maxRecDepth 100000 in
set_option maxHeartbeats 2000000 in
theorem walk_nat (A0 : Option Addr) (c0 : Nat) (l0 : List Nat) (A1 : Option Addr) (c1 : Nat) (l1 : List Nat) (A2 : Option Addr) (c2 : Nat) (l2 : List Nat) (a b : Nat) (ha : a < 256) (hb : b < 256) (w : World) (w0 : In w w.heap.size A0 c0 l0) (s0 : c0 ≤ 140737488351232) (w1 : In w w.heap.size A1 c1 l1) (w2 : In w w.heap.size A2 c2 l2) (_s2 : c2 ≤ 140737488351232) :
    Calls Try.prog 5 #[.slice A0 l0.length c0, .slice A1 l1.length c1, .slice A2 l2.length c2, .int .u8 (a : Int), .int .u8 (b : Int)] w fun e w' => e = .returned (.bool true) ∧ Below w.heap.size w w' := by
  obtain ⟨i0, hi0, hz0, hz1, hz2⟩ := info_parts byte_info
  obtain ⟨i1, hj0, hj1, hj2, hj3⟩ := info_parts pint_info
  have hcap0 := w0.cap
  have hcap2 := w2.cap
  obtain ⟨n, hn⟩ : ∃ n, n = a % 8 := ⟨_, rfl⟩
  have hn8 : n < 8 := by omega
  have hrem : ((a : Int)).tmod 8 = (n : Int) := by rw [hn, Int.tmod_eq_emod_of_nonneg (by omega)]; omega
  obtain ⟨m, hm⟩ : ∃ m, m = b % 6 := ⟨_, rfl⟩
  have hm6 : m < 6 := by omega
  have hrem2 : ((b : Int)).tmod 6 = (m : Int) := by rw [hm, Int.tmod_eq_emod_of_nonneg (by omega)]; omega
  clear hn hm
  have HT := Lib.hid (trim_any A0 c0 l0 w _ w0 (Nat.le_refl _) (by omega))
  obtain ⟨t, ht⟩ : ∃ t, t = (tr l0).length := ⟨_, rfl⟩
  have htl : t ≤ l0.length := by rw [ht]; exact tr_len l0
  rw [← ht] at HT
  have HTL := Lib.hid ht
  clear ht
  by_cases hA : n + 1 < t
  · go_enter Try.func5, Try.ntmps5
    go_wp2_with fail
    refine HT.out.mono ?_
    rintro e w2 ⟨A2, c2, rfl, ho2, hb2⟩
    clear HT ho2
    go_wp2_with fail
    refine (answers_any _).mono ?_
    rintro e w3 ⟨rfl, hb3⟩
    go_wp2
    go_ret
    exact ⟨rfl, hb2.trans (hb3.mono hb2.size)⟩
  by_cases hC : 40 < l1.length
  · go_enter Try.func5, Try.ntmps5
    go_wp2_with fail
    refine HT.out.mono ?_
    rintro e w2 ⟨A2, c2, rfl, ho2, hb2⟩
    clear HT ho2
    go_wp2_with fail
    refine (answers_any _).mono ?_
    rintro e w3 ⟨rfl, hb3⟩
    go_wp2
    go_ret
    exact ⟨rfl, hb2.trans (hb3.mono hb2.size)⟩
  by_cases hG : l1.length < l2.length
  · go_enter Try.func5, Try.ntmps5
    go_wp2_with fail
    refine HT.out.mono ?_
    rintro e w2 ⟨A2, c2, rfl, ho2, hb2⟩
    clear HT ho2
    go_wp2_with fail
    refine (answers_any _).mono ?_
    rintro e w3 ⟨rfl, hb3⟩
    go_wp2
    go_ret
    exact ⟨rfl, hb2.trans (hb3.mono hb2.size)⟩
  cases hu : unB l1 with
  | false =>
    have HUB := Lib.hid hu
    clear hu
    go_enter Try.func5, Try.ntmps5
    go_wp2_with fail
    refine HT.out.mono ?_
    rintro e w2 ⟨A2, c2, rfl, ho2, hb2⟩
    have HU := Lib.hid (unlike_any A1 c1 l1 w2 _ ((w1.below hb2).more hb2.size) (by omega))
    rw [HUB.out] at HU
    clear HT ho2
    go_wp2_with fail
    refine HU.out.mono ?_
    rintro e w3 ⟨rfl, m, rfl⟩
    clear HU
    go_wp2_with fail
    refine (answers_any _).mono ?_
    rintro e w4 ⟨rfl, hb4⟩
    go_wp2
    go_ret
    exact ⟨rfl, (Gw.Below.drewN hb2 m).trans (hb4.mono hb2.size)⟩
  | true =>
    have HUB := Lib.hid hu
    clear hu
    go_enter Try.func5, Try.ntmps5
    go_wp2_with fail
    refine HT.out.mono ?_
    rintro e w9 ⟨A9, c9, rfl, ho9, hb9⟩
    have HU := Lib.hid (unlike_any A1 c1 l1 w9 _ ((w1.below hb9).more hb9.size) (by omega))
    rw [HUB.out] at HU
    clear HT ho9
    go_wp2_with fail
    refine HU.out.mono ?_
    rintro e w3 ⟨rfl, mm, hw3⟩
    have hB3 : Below w.heap.size w w3 := by rw [hw3]; exact Gw.Below.drewN hb9 mm
    clear HU hw3 hb9
    go_wp2
    go_loopw [13, 14, 15] (CrRel w l0 l1 l2) (fun _ _ i _ => l1.length - (intOf i).toNat)
    case atStart => exact ⟨0, none, none, 0, 0, Nat.zero_le _, rfl, rfl, rfl, Own.none_ _ _ _, OwnJ.nil _ _ _, hB3⟩
    case round =>
      clear hB3
      obtain ⟨k, Ao, Aj, co', cj, hk, rfl, rfl, rfl, hown, hoj, hbel⟩ := hrel
      have hbs := hbel.size
      have hwl := wnt_len l2 k
      by_cases hkp : k < l1.length
      · obtain ⟨x, bx, ox, hx, hxb, rfl, hbx, hcx⟩ := (w1.below hbel).sl.at_ hkp
        have HX := Lib.hid (co_of' hx)
        have HE := Lib.hid (reval_any A0 c0 l0 x hxb wr _ ((w0.below hbel).more hbs) (by omega))
        have hev := ev_lt w0.bb x
        clear hx
        obtain ⟨y, hy⟩ : ∃ y, y = ev x l0 := ⟨_, rfl⟩
        rw [← hy] at HE hev
        have HY := Lib.hid hy
        clear hy
        by_cases hkt : k < l2.length
        · obtain ⟨z, bz, oz, hz, hzb, rfl, hbz, hcz⟩ := (w2.below hbel).sl.at_ hkt
          have HZ := Lib.hid (co_of' hz)
          clear hz
          by_cases hz0' : z = 0
          · subst hz0'
            have HW := Lib.hid (show wnt l2 (k + 1) = wnt l2 k by rw [wnt, if_pos HZ.out])
            have HV := Lib.hid (show ev (co l1 k) l0 ^^^ co l2 k = y by rw [HZ.out, HX.out, HY.out, Nat.xor_zero])
            have HOW := Lib.hid hown
            have HOJ := Lib.hid hoj
            clear hown hoj
            go_wp2_with (first | (go_at_call 18; refine HE.out.mono ?_; rintro e wq ⟨rfl, rfl⟩) | (at_builtin; refine wpList_app rfl (.tmp 83) (.tmp 85) 22 rfl w.heap.size 5 i0 _ Try.underlying22 hi0 hz0 hz1 hz2 rfl Ao k co' (tys l0 l1 l2 k) rfl (tys_len _ _ _ _).symm (HOW.out.alloc _) _ _ 1 1 [y] rfl rfl (fun h => by cases h) (Sl.one wr 5 _ hev) (by rw [tys_len]; simp; omega) (by simp; omega) ?_; intro A8 c8 w8 hown8 hgr8))
            obtain ⟨hO8, hB8⟩ := tys_step HV.out hbel HOW.out hown8 hgr8
            have hJ8 := ownJ_beside (by decide) (HOW.out.alloc _) (HOJ.out.alloc _) hgr8
            clear hown8 hgr8
            go_roundw
            case rel => exact ⟨k + 1, A8, Aj, c8, cj, by omega, by go_num, by rw [tys_len], by rw [HW.out], hO8, by rw [HW.out]; exact hJ8, hB8⟩
            case measure => simp [intOf]; omega
          · have HW := Lib.hid (show wnt l2 (k + 1) = wnt l2 k ++ [k] by rw [wnt, if_neg (by rw [HZ.out]; exact hz0')])
            have HV := Lib.hid (show ev (co l1 k) l0 ^^^ co l2 k = y ^^^ z by rw [HZ.out, HX.out, HY.out])
            have hne : ((z : Int) != 0) = true := by rw [bne_iff_ne]; omega
            have hxor : bits .xor .u8 (y : Int) (z : Int) = ((y ^^^ z : Nat) : Int) := u8_xor_nat _ _ hev hzb
            have hxl := Gf.xor_lt hev hzb
            have HOW := Lib.hid hown
            have HOJ := Lib.hid hoj
            clear hown hoj
            have q1 : ∀ o, (wr.alloc o).cell? ⟨bz, oz + k, none⟩ = some (.int .u8 (z : Int)) := fun o => (World.cell?_alloc_lt wr o _ (by show bz < _; omega)).trans hcz
            go_wp2_with (go_at_call 18; refine HE.out.mono ?_; rintro e wq ⟨rfl, rfl⟩)
            go_region_law (first
              | (refine step_apV rfl (.tmp 79) (.tmp 81) 24 rfl w.heap.size 3 i1 (.int .i64 0) 1 8 Try.underlying24 hj0 hj1 hj2 hj3 rfl (by decide) (.slice Aj (wnt l2 k).length cj) (wnt l2 k).length (intv (wnt l2 k)) (by first | rfl | (simp [Act.eval]; done) | (simp [Act.eval, Act.put]; done)) ?_ ⟨wr.heap.size, 0, none⟩ 1 1 [.int .i64 (k : Int)] (by first | rfl | (simp [Act.eval]; done) | (simp [Act.eval, Act.put]; done)) rfl ?_ ?_ ?_ ?_ ?_ ?_
                 · exact (HOJ.out.alloc _).drewN 1
                 · intro j u hj
                   match j, hj with
                   | 0, hj => simp at hj; subst hj; exact cell_new wr _ _
                 · intro u hu; simp at hu; subst hu; rfl
                 · simp only [maxLen]; omega
                 · omega
                 · show _ ≤ (wr.alloc _).heap.size; rw [World.size_alloc]; omega
                 intro v' w7 hown7 hgr7
                 have hB7 : Below w.heap.size w w7 := ((hbel.trans (((Below.refl _ wr).alloc (Nat.le_refl _) _).mono hbs)).trans (Gw.Below.drewN (Below.refl _ _) 1)).grown hgr7 (by show _ ≤ (wr.alloc _).heap.size; rw [World.size_alloc]; omega) (fun b hb => (HOJ.out.block hb).1)
                 have hcz7 := (hB7.cell (p := ⟨bz, oz + k, none⟩) (by show bz < _; omega)).trans ((hbel.cell (p := ⟨bz, oz + k, none⟩) (by show bz < _; omega)).symm.trans hcz)
                 have hO7 := own_beside (by decide) ((HOW.out.alloc _).drewN 1) ((HOJ.out.alloc _).drewN 1) hgr7
                 obtain ⟨A7, c7, rfl, hJ7⟩ := OwnJ.mk' (L := wnt l2 k ++ [k]) (by rw [intv_app]; exact hown7)))
            all_goals (
              have HO7 := Lib.hid hO7
              have HJ7 := Lib.hid hJ7
              have hb7s := hB7.size
              clear hO7 hJ7 hown7 hgr7 hcz q1 hcx
              go_wp2_with (at_builtin; refine wpList_app rfl (.tmp 83) (.tmp 85) 22 rfl w.heap.size 5 i0 _ Try.underlying22 hi0 hz0 hz1 hz2 rfl Ao k co' (tys l0 l1 l2 k) rfl (tys_len _ _ _ _).symm (HO7.out.alloc _) _ _ 1 1 [y ^^^ z] rfl rfl (fun h => by cases h) (Sl.one w7 5 _ hxl) (by rw [tys_len]; simp; omega) (by simp; omega) ?_; intro A8 c8 w8 hown8 hgr8)
              obtain ⟨hO8, hB8⟩ := tys_step HV.out hB7 HO7.out hown8 hgr8
              have hJ8 := ownJ_beside (by decide) (HO7.out.alloc _) (HJ7.out.alloc _) hgr8
              clear hown8 hgr8
              go_roundw
              case rel => exact ⟨k + 1, A8, A7, c8, c7, by omega, by go_num, by rw [tys_len], by first | (rw [HW.out]; done) | (rw [HW.out, List.length_append]; rfl), hO8, by rw [HW.out]; exact hJ8, hB8⟩
              case measure => simp [intOf]; omega)
        ·
          have HZ := Lib.hid (co_far (p := l2) (i := k) (by omega))
          have HW := Lib.hid (show wnt l2 (k + 1) = wnt l2 k by rw [wnt, if_pos HZ.out])
          have HV := Lib.hid (show ev (co l1 k) l0 ^^^ co l2 k = y by rw [HZ.out, HX.out, HY.out, Nat.xor_zero])
          have HOW := Lib.hid hown
          have HOJ := Lib.hid hoj
          clear hown hoj
          go_wp2_with (first | (go_at_call 18; refine HE.out.mono ?_; rintro e wq ⟨rfl, rfl⟩) | (at_builtin; refine wpList_app rfl (.tmp 83) (.tmp 85) 22 rfl w.heap.size 5 i0 _ Try.underlying22 hi0 hz0 hz1 hz2 rfl Ao k co' (tys l0 l1 l2 k) rfl (tys_len _ _ _ _).symm (HOW.out.alloc _) _ _ 1 1 [y] rfl rfl (fun h => by cases h) (Sl.one wr 5 _ hev) (by rw [tys_len]; simp; omega) (by simp; omega) ?_; intro A8 c8 w8 hown8 hgr8))
          obtain ⟨hO8, hB8⟩ := tys_step HV.out hbel HOW.out hown8 hgr8
          have hJ8 := ownJ_beside (by decide) (HOW.out.alloc _) (HOJ.out.alloc _) hgr8
          clear hown8 hgr8
          go_roundw
          case rel => exact ⟨k + 1, A8, Aj, c8, cj, by omega, by go_num, by rw [tys_len], by rw [HW.out], hO8, by rw [HW.out]; exact hJ8, hB8⟩
          case measure => simp [intOf]; omega
      · obtain rfl : k = l1.length := by omega
        have HTY := Lib.hid (tys_len l0 l1 l2 l1.length)
        have HWR := Lib.hid (wrTo_tys l0 l1 l2 l1.length l1.length (Nat.le_refl _))
        have HOW := Lib.hid hown
        have HOJ := Lib.hid hoj
        clear hown hoj
        by_cases hA1 : m < (wnt l2 l1.length).length
        · go_wp2_with fail
          refine (answers_any _).mono ?_
          rintro e w6 ⟨rfl, hb6⟩
          go_wp2
          go_ret
          exact ⟨rfl, hbel.trans (hb6.mono hbs)⟩
        by_cases hA2 : l1.length < (wnt l2 l1.length).length + (n + 1 + m)
        · have hA3 : (l1.length : Int) - ((wnt l2 l1.length).length : Int) < (n : Int) + 1 + (m : Int) := by omega
          go_wp2_with fail
          refine (answers_any _).mono ?_
          rintro e w6 ⟨rfl, hb6⟩
          go_wp2
          go_ret
          exact ⟨rfl, hbel.trans (hb6.mono hbs)⟩
        have hA3 : ¬ ((l1.length : Int) - ((wnt l2 l1.length).length : Int) < (n : Int) + 1 + (m : Int)) := by omega
        have HAGD := Lib.hid (agd_tys (t := l2) (n := n) (m := m) w0.bb (of_decide_eq_true HUB.out) (by omega) (by rw [← HTL.out]; omega) (by omega) (by omega) (by omega) (by omega))
        go_wp2_with fail
        refine (new_any _).mono ?_
        rintro e w4 ⟨rfl, hF, hb4⟩
        have hB4 := hbel.trans (hb4.mono hbs)
        have HD := Lib.hid (bdecode_any _ A1 Ao c1 co' l1 (tys l0 l1 l2 l1.length) (n : Int) (m : Int) w4 hF ((w1.below hB4).more hB4.size) ((HOW.out.kept hb4).inn))
        rw [HTY.out] at HD
        have HOJ4 := Lib.hid (HOJ.out.kept hb4)
        clear hb4 hF
        go_wp2_with fail
        refine HD.out.mono ?_
        rintro e w5 (⟨q, Aq, Aw, cq, cw, rfl, hag, hop, hoj, hb5⟩ | ⟨_, hno⟩)
        case inr => exact (hno _ HAGD.out).elim
        have hB5 := hB4.trans (hb5.mono hB4.size)
        have hq := hag.alone w1.bb HAGD.out
        subst hq
        rw [HWR.out] at hoj ⊢
        have hoj5 := HOJ4.out.kept hb5
        clear hag hb5
        go_wp2_with fail
        refine (answers_any _).mono ?_
        rintro e w6 ⟨rfl, hb6⟩
        have hB6 := hB5.trans (hb6.mono hB5.size)
        have hop6 := hop.kept hb6
        have hoj6 := hoj.kept hb6
        have hoj7 := hoj5.kept hb6
        clear hop hb6 hoj hoj5
        have HT2 := Lib.hid (trim_any A0 c0 l0 w6 _ ((w0.below hB6).more hB6.size) (Nat.le_refl _) (by omega))
        go_wp2_with fail
        refine HT2.out.mono ?_
        rintro e w7 ⟨A7, c7, rfl, ho7, hb7⟩
        have hB7 := hB6.trans (hb7.mono hB6.size)
        have HS := Lib.hid (same_any Aq A7 cq c7 (tr l0) (tr l0) w7 _ _ (hop6.kept hb7).inn ho7.inn)
        rw [decide_eq_true (rfl : tr l0 = tr l0)] at HS
        have HSI := Lib.hid (sameInts_any Aw Aj cw cj (wnt l2 l1.length) (wnt l2 l1.length) w7 (hoj6.kept hb7).inn (hoj7.kept hb7).inn (by omega))
        rw [decide_eq_true (rfl : wnt l2 l1.length = wnt l2 l1.length)] at HSI
        clear HT2 hop6 ho7 hb7 hoj6 hoj7
        go_wp2_with fail
        refine HS.out.mono ?_
        rintro e w8 ⟨rfl, rfl⟩
        go_wp2_with fail
        refine HSI.out.mono ?_
        rintro e w8 ⟨rfl, m2, rfl⟩
        go_wp2
        go_ret
        exact ⟨rfl, Gw.Below.drewN hB7 m2⟩
theorem walk (A0 : Option Addr) (c0 : Nat) (l0 : List Nat) (A1 : Option Addr) (c1 : Nat) (l1 : List Nat) (A2 : Option Addr) (c2 : Nat) (l2 : List Nat) (a3 a4 : Int) (w : World) (w0 : In w w.heap.size A0 c0 l0) (s0 : c0 ≤ 140737488351232) (w1 : In w w.heap.size A1 c1 l1) (_s1 : c1 ≤ 140737488351232) (w2 : In w w.heap.size A2 c2 l2) (s2 : c2 ≤ 140737488351232) (w3 : (Lit.int .u8 a3).wf = true) (w4 : (Lit.int .u8 a4).wf = true) :
    Calls Try.prog 5 #[.slice A0 l0.length c0, .slice A1 l1.length c1, .slice A2 l2.length c2, .int .u8 a3, .int .u8 a4] w fun e w' => e = .returned (.bool true) ∧ Below w.heap.size w w' := by
  obtain ⟨h1, h2⟩ := bounds_u8 w3
  obtain ⟨a, rfl⟩ := Int.eq_ofNat_of_zero_le h1
  obtain ⟨h3, h4⟩ := bounds_u8 w4
  obtain ⟨b, rfl⟩ := Int.eq_ofNat_of_zero_le h3
  exact walk_nat A0 c0 l0 A1 c1 l1 A2 c2 l2 a b (by omega) (by omega) w w0 s0 w1 w2 s2

set_option maxRecDepth 100000 in
theorem lifted (os : Os) (started : os.Started) (H : Type) (enc : TypeId × Value → H) :
    ReturnsInHanded {} Try.checked os 5 .any (Rows.bwCorrectsSpec.pre6 enc Try.prog Try.f5 Rows.bwCorrectsRow.domain false) (Rows.bwCorrectsSpec.post enc Try.prog Try.f5 false true false false) := by
  refine returnsInHanded_of_change_sized (C := Try.checked) own started (by kernel_rfl) Try.func5
    (ChangeSpec.witness6 (enc := enc) (C := Try.checked) false ⟨#[], #[.slice none 0 0, .slice none 0 0, .slice none 0 0, .int .u8 0, .int .u8 0], []⟩ 8 (by kernel_rfl) (by kernel_rfl) (by kernel_rfl) (by kernel_rfl)) ?_
  intro W base args ds gs before hval0 hW _hcnd hsz0 _
  have hval : ∀ (j : Nat) t v, Try.f5.params[j]? = some t → args[j]? = some v → Value.okWide Try.prog W .any base t v := hval0
  have hW' := hW
  obtain ⟨p, q, hA0, hV, rfl, _hfz, _hnd⟩ := hW
  have hA : DataW.TrodAll enc Try.prog W 0 (fun _ => true) true Try.f5.params.toList args.toList ds p := hA0
  have hsz : (DataW.weightsEach Try.prog (Try.f5.params.toList ++ Rows.bwCorrectsSpec.plain.varTypes Try.prog) (ds ++ gs)).all (· ≤ reachBytes) = true := hsz0
  rw [Try.params5] at hA hval hsz
  obtain ⟨v0, vs0, d0, ds0, p0, q0, hargs, rfl, rfl, h0, r0⟩ := trodAll_cons hA
  obtain ⟨v1, vs1, d1, ds1, p1, q1, rfl, rfl, rfl, h1, r1⟩ := trodAll_cons r0
  obtain ⟨v2, vs2, d2, ds2, p2, q2, rfl, rfl, rfl, h2, r2⟩ := trodAll_cons r1
  obtain ⟨v3, vs3, d3, ds3, p3, q3, rfl, rfl, rfl, h3, r3⟩ := trodAll_cons r2
  obtain ⟨v4, vs4, d4, ds4, p4, q4, rfl, rfl, rfl, h4, r4⟩ := trodAll_cons r3
  obtain ⟨rfl, rfl, rfl⟩ := trodAll_nil r4
  obtain rfl : args = #[v0, v1, v2, v3, v4] := by cases args; simp_all
  obtain ⟨rfl, rfl⟩ := trodVars_none hV
  have k0 := h0
  have lt0 : ∀ x ∈ p0, x.block < W.heap.size := by obtain ⟨m, hm⟩ := k0; exact DataW.trod_lt m _ _ _ hm
  obtain ⟨A0, c0, l0, rfl, w0, sz0⟩ := open_bytes Try.underlying22 Try.underlying5 (by kernel_rfl) (hval 0 22 v0 rfl rfl) h0
  have s0 := sized_bytes hsz (j := 0) (t := 22) (e := 5) rfl rfl Try.underlying22 (by kernel_rfl) sz0
  have k1 := h1
  have lt1 : ∀ x ∈ p1, x.block < W.heap.size := by obtain ⟨m, hm⟩ := k1; exact DataW.trod_lt m _ _ _ hm
  obtain ⟨A1, c1, l1, rfl, w1, sz1⟩ := open_bytes Try.underlying22 Try.underlying5 (by kernel_rfl) (hval 1 22 v1 rfl rfl) h1
  have s1 := sized_bytes hsz (j := 1) (t := 22) (e := 5) rfl rfl Try.underlying22 (by kernel_rfl) sz1
  have k2 := h2
  have lt2 : ∀ x ∈ p2, x.block < W.heap.size := by obtain ⟨m, hm⟩ := k2; exact DataW.trod_lt m _ _ _ hm
  obtain ⟨A2, c2, l2, rfl, w2, sz2⟩ := open_bytes Try.underlying22 Try.underlying5 (by kernel_rfl) (hval 2 22 v2 rfl rfl) h2
  have s2 := sized_bytes hsz (j := 2) (t := 22) (e := 5) rfl rfl Try.underlying22 (by kernel_rfl) sz2
  obtain ⟨a3, rfl, rfl, rfl, w3⟩ := open_int Try.underlying5 (hval 3 5 v3 rfl rfl) h3
  obtain ⟨a4, rfl, rfl, rfl, w4⟩ := open_int Try.underlying5 (hval 4 5 v4 rfl rfl) h4
  clear hA0 hval0 hsz0 hsz
  refine (walk A0 c0 l0 A1 c1 l1 A2 c2 l2 a3 a4 W w0 s0 w1 s1 w2 s2 w3 w4).mono fun e W' ⟨he, bel⟩ => ?_
  subst he
  exact ⟨_, rfl, _, _, _, [], _, [], hW', trodAll_mk1 (shut_bool Try.underlying4 _), (trodAll_cons_mk (Below.trod laidOut (by kernel_rfl) (of_decide_eq_true (by kernel_rfl)) k0 bel lt0) (trodAll_cons_mk (Below.trod laidOut (by kernel_rfl) (of_decide_eq_true (by kernel_rfl)) k1 bel lt1) (trodAll_cons_mk (Below.trod laidOut (by kernel_rfl) (of_decide_eq_true (by kernel_rfl)) k2 bel lt2) (trodAll_cons_mk (shut_int Try.underlying5 w3) (trodAll_cons_mk (shut_int Try.underlying5 w4) trodAll_mk0))))), rfl, bel.frame _, fun h => by cases h⟩

theorem over : Rows.bwCorrectsRow.holds Try.pinned (OpenSpec.ofChange Rows.bwCorrectsSpec) :=
  OpenClaim.holds_of_wide 5 Try.f5 rfl rfl rfl rfl rfl rfl rfl ⟨rfl, rfl, rfl, rfl, rfl⟩ rfl rfl rfl rfl rfl (by kernel_rfl) Try.func5 (by kernel_rfl)
    (of_decide_eq_true (by kernel_rfl)) (by unfold Func.isWrapper; first | (rw [if_pos (by decide +kernel)]; kernel_rfl) | (rw [if_neg (by decide +kernel)]; exact ⟨rfl, rfl⟩))
    (fun os started H enc _ => lifted os started H enc)

end Go.Proofs.Ytmcfkgjkfceomaa.bwCorrects
namespace Go.Proofs.Ytmcfkgjkfceomaa
/-- The statement. -/
theorem bwCorrects_holds : Rows.BwCorrectsSaid := bwCorrects.over
#print axioms bwCorrects_holds
end Go.Proofs.Ytmcfkgjkfceomaa

