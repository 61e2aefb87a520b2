/- What the definition's own Through (package shamrockref01) does: the polynomial through points, in memory of its own. -/
import Derived.Test.YtmcfkgjkfceomaaRpd
namespace Go.Proofs.Ytmcfkgjkfceomaa
open Go.RowKit Go.Shelf Gw Pol

theorem rroots' (A : Option Addr) (c n : Nat) (xs : List Nat) (w : World) (hn : n = xs.length) (hI : In w w.heap.size A c xs) (hcm : xs.length ≤ 70368744177664) :
    Calls Try.prog 35 #[.slice A n c] w fun e w' => ∃ A2 c2, e = .returned (.slice A2 (rt xs).length c2) ∧ Gw.Own w' w.heap.size 5 A2 c2 (rt xs) ∧ Below w.heap.size w w' := by
  subst hn; exact rroots_any A c xs w hI hcm
theorem erase_eq {xs : List Nat} {k k1 : Nat} (_hk : k < xs.length) (h : k1 = k + 1) : xs.take k ++ xs.drop k1 = xs.eraseIdx k := by
  subst h; rw [List.eraseIdx_eq_take_drop_succ]
theorem thrTo_len {xs : List Nat} (ys : List Nat) {k : Nat} (hk : k ≤ xs.length) : (thrTo xs ys k).length ≤ xs.length := by
  cases k with
  | zero => exact Nat.zero_le _
  | succ k => exact Dg.tr (Dg.add (thrTo_dg ys (by omega)) (lag_dg ys (by omega)))
theorem lag_dg' {xs : List Nat} (ys : List Nat) {i : Nat} (hi : i < xs.length) : Dg (mul (rt (xs.eraseIdx i)) [lagc xs ys i]) xs.length := fun j hj => by
  have := lag_dg ys hi j hj
  unfold lag at this
  rwa [co_tr] at this
def ThrRel (w : World) (xs ys : List Nat) (v i : Value) (wr : World) : Prop :=
  ∃ (k n : Nat) (A : Option Addr) (c : Nat), v = .slice A n c ∧ n = (thrTo xs ys k).length ∧ i = .int .i64 (k : Int) ∧ k ≤ xs.length ∧ Gw.Own wr w.heap.size 5 A c (thrTo xs ys k) ∧ Below w.heap.size w wr

set_option maxRecDepth 100000 in
set_option maxHeartbeats 1000000 in
theorem rthrough_any (A A' : Option Addr) (c c' : Nat) (xs ys : List Nat) (w : World) (hx : In w w.heap.size A c xs) (hy : In w w.heap.size A' c' ys) (hl : xs.length ≤ ys.length) (hcm : xs.length ≤ 70368744177664) :
    Calls Try.prog 25 #[.slice A xs.length c, .slice A' ys.length c'] w fun e w' => ∃ A2 c2, e = .returned (.slice A2 (thr xs ys).length c2) ∧ Gw.Own w' w.heap.size 5 A2 c2 (thr xs ys) ∧ Below w.heap.size w w' := by
  obtain ⟨i0, hi0, hz0, hz1, hz2⟩ := info_parts byte_info
  go_enter Try.func25, Try.ntmps25
  go_wp2
  go_loopw [5, 6] (ThrRel w xs ys) (fun _ i _ => xs.length - (intOf i).toNat)
  case atStart => exact ⟨0, 0, none, 0, rfl, rfl, rfl, Nat.zero_le _, Own.none_ _ _ _, Below.refl _ _⟩
  case round =>
    obtain ⟨k, n, Ao, co', rfl, hn, rfl, hk, hown, hbel⟩ := hrel
    have hbs := hbel.size
    have HN := Lib.hid hn
    clear hn
    by_cases hkp : k < xs.length
    · obtain ⟨x, b, off, hx1, hxb, rfl, hb, hcell⟩ := (hx.below hbel).sl.at_ hkp
      obtain ⟨y, b2, off2, hy1, hyb, rfl, hb2, hcell2⟩ := (hy.below hbel).sl.at_ (k := k) (by omega)
      have hky : k < ys.length := by omega
      have HX := Lib.hid (co_of hx1)
      have HY := Lib.hid (co_of hy1)
      clear hx1 hy1
      have hxcap := hx.cap
      have hsx := (hx.below hbel).sl
      obtain ⟨k1, hk1⟩ : ∃ k1 : Nat, k1 = k + 1 := ⟨_, rfl⟩
      have hw1 : IntKind.i64.wrap ((k : Int) + 1) = (k1 : Int) := by rw [IntKind.wrap_i64]; omega
      have hkc : k ≤ c := by omega
      have hk1x : k1 ≤ xs.length := by omega
      have HK1 := Lib.hid hk1
      by_cases hcap' : c = k1
      · obtain rfl := hcap'
        have hlx : xs.length = c := by omega
        have HLX := Lib.hid hlx
        have hdrop := Lib.hid (show xs.drop c = [] from List.drop_eq_nil_of_le (by omega))
        clear hk1 hlx
        have hcap' : True := trivial
        have hl0 : xs.length - c = 0 := by omega
        go_wp2
        go_region_law (first | (refine step_app rfl (.tmp 16) (.tmp 19) 22 rfl wr.heap.size 5 i0 _ Try.underlying22 hi0 hz0 hz1 hz2 rfl (some ⟨wr.heap.size, 0, none⟩) 0 0 [] rfl rfl (Own.lit0 wr wr.heap.size 5 (Nat.le_refl _)) w.heap.size (some ⟨b, off, none⟩) k c (xs.take k) rfl (by simp; omega) (fun h => by cases h) ((hsx.take k).alloc hbs _) (by simp; omega) (by simp) ?_; intro A2 c2 w2 hown2 hgr2; have hb2' := below_lit (Below.refl wr.heap.size wr) (Nat.le_refl _) hgr2) | (refine step_app rfl (.tmp 20) (.tmp 24) 22 rfl wr.heap.size 5 i0 _ Try.underlying22 hi0 hz0 hz1 hz2 rfl A2 k c2 (xs.take k) rfl (by simp; omega) hown2 w.heap.size (some ⟨b, off, none⟩) 0 0 [] rfl rfl (fun h => by cases h) Sl.nil (by simp; omega) hb2'.size ?_; intro A3 c3 w3 hown3 hgr3))
        have hoe := hown3
        rw [← hdrop.out, erase_eq hkp HK1.out] at hoe
        have hbw3 : Below wr.heap.size wr w3 := below_app0 hb2' hb2'.size hown2 hgr3
        have HE := Lib.hid hoe
        clear hown2 hgr2 hown3 hgr3 hoe hsx hw1 hcap'
        go_wp2_with fail
        refine (rroots' A3 c3 _ (xs.eraseIdx k) _ (by rw [List.length_eraseIdx_of_lt hkp]; have := HK1.out; have := HLX.out; omega) HE.out.inn (by rw [List.length_eraseIdx_of_lt hkp]; omega)).mono ?_
        rintro e w4 ⟨A4, c4, rfl, hown4, hb4⟩
        have hbw4 : Below wr.heap.size wr w4 := hbw3.trans (hb4.mono hbw3.size)
        have hcx4 := (hbw4.cell (p := ⟨b, off + k, none⟩) (by show b < _; omega)).trans hcell
        have hcy4 := (hbw4.cell (p := ⟨b2, off2 + k, none⟩) (by show b2 < _; omega)).trans hcell2
        have hb4s := hbw4.size
        have hrl := (rt_top (xs.eraseIdx k)).1
        rw [List.length_eraseIdx_of_lt hkp] at hrl
        have hrc : (rt (xs.eraseIdx k)).length ≤ 70368744177664 := by omega
        have hrc2 : (rt (xs.eraseIdx k)).length ≤ 140737488355328 := by omega
        have HP := Lib.hid hown4.inn
        have HO4 := Lib.hid hown4
        clear hb4 hbw3 hrl hown4 hcell hcell2
        go_wp2
        go_quiet ((first | (go_at_call 18; exact Calls.quiet_of_same (reval_same A4 c4 (rt (xs.eraseIdx k)) x hxb _ w4.heap.size (HP.out.drewN _) hrc2)) | (go_at_call 36; exact Calls.quiet_of_same (rinv_same _ (ev_lt (rt_bb _) _) _)) | (go_at_call 26; exact Calls.quiet_of_same (rmul_still _ _ hyb (Gf.inv_lt _) _))))
        have HC := Lib.hid (show Gf.gm y (Gf.inv (ev x (rt (xs.eraseIdx k)))) = lagc xs ys k by unfold lagc; rw [HX.out, HY.out])
        go_wp2_with fail
        rw [HC.out]
        refine (rtimes' A4 (some ⟨w4.heap.size, 0, none⟩) c4 1 _ 1 (rt (xs.eraseIdx k)) [lagc xs ys k] _ rfl rfl (((HO4.out.drewN nq).alloc _).inn) ⟨(Sl.one (w4.drewN nq) 5 _ (lagc_lt _ _ _)).more (by simp), by simp, fun h => by cases h⟩ (by simp; omega)).mono ?_
        rintro e w5 ⟨A5, c5, rfl, hown5, hb5⟩
        have hbw5 : Below wr.heap.size wr w5 := ((Gw.Below.drewN hbw4 nq).alloc (by simpa using hb4s) (.cells #[.int .u8 (lagc xs ys k : Int)] 5)).trans (hb5.mono (by simp; omega))
        have hsum := hown.kept hbw5
        have hlagl : (tr (mul (rt (xs.eraseIdx k)) [lagc xs ys k])).length ≤ 70368744177664 := Nat.le_trans (Dg.tr (lag_dg' ys hkp)) hcm
        have hthrl : (thrTo xs ys k).length ≤ 70368744177664 := Nat.le_trans (thrTo_len ys hk) hcm
        clear hbw4 hcx4 hcy4 hb5 HP HO4
        have HS := Lib.hid hsum
        have H5 := Lib.hid hown5
        clear hsum hown5
        go_wp2_with fail
        refine (radd' Ao A5 co' c5 n _ (thrTo xs ys k) (lag xs ys k) _ HN.out rfl HS.out.inn H5.out.inn (by show _ + (tr (mul _ _)).length ≤ _; omega)).mono ?_
        rintro e w6 ⟨A6, c6, rfl, hown6, hb6⟩
        have hb5s := hbw5.size
        have hown7 := hown6.base (base' := w.heap.size) (by omega)
        have hb7 := hbel.trans ((hbw5.trans (hb6.mono hb5s)).mono hbs)
        clear hbw5 hb6 hown6
        go_wp2
        go_roundw
        case rel => exact ⟨k + 1, _, A6, c6, rfl, rfl, by go_num, by omega, hown7, hb7⟩
        case measure => simp [intOf]; omega
      · have hk1c : k1 ≤ c := by omega
        clear hk1
        go_wp2
        go_region_law (first | (refine step_app rfl (.tmp 16) (.tmp 19) 22 rfl wr.heap.size 5 i0 _ Try.underlying22 hi0 hz0 hz1 hz2 rfl (some ⟨wr.heap.size, 0, none⟩) 0 0 [] rfl rfl (Own.lit0 wr wr.heap.size 5 (Nat.le_refl _)) w.heap.size (some ⟨b, off, none⟩) k c (xs.take k) rfl (by simp; omega) (fun h => by cases h) ((hsx.take k).alloc hbs _) (by simp; omega) (by simp) ?_; intro A2 c2 w2 hown2 hgr2; have hb2' := below_lit (Below.refl wr.heap.size wr) (Nat.le_refl _) hgr2) | (refine step_app rfl (.tmp 20) (.tmp 24) 22 rfl wr.heap.size 5 i0 _ Try.underlying22 hi0 hz0 hz1 hz2 rfl A2 k c2 (xs.take k) rfl (by simp; omega) hown2 w.heap.size (some ⟨b, off + k1, none⟩) (xs.length - k1) (c - k1) (xs.drop k1) rfl (by simp) (fun h => by cases h) (((hx.below hbel).sl.below (hb2'.mono hbs)).drop k1) (by simp; omega) hb2'.size ?_; intro A3 c3 w3 hown3 hgr3))
        have hoe := hown3
        rw [erase_eq hkp HK1.out] at hoe
        have hbw3 : Below wr.heap.size wr w3 := below_app0 hb2' hb2'.size hown2 hgr3
        have HE := Lib.hid hoe
        clear hown2 hgr2 hown3 hgr3 hoe hsx hw1 hcap'
        go_wp2_with fail
        refine (rroots' A3 c3 _ (xs.eraseIdx k) _ (by rw [List.length_eraseIdx_of_lt hkp]; have := HK1.out; omega) HE.out.inn (by rw [List.length_eraseIdx_of_lt hkp]; omega)).mono ?_
        rintro e w4 ⟨A4, c4, rfl, hown4, hb4⟩
        have hbw4 : Below wr.heap.size wr w4 := hbw3.trans (hb4.mono hbw3.size)
        have hcx4 := (hbw4.cell (p := ⟨b, off + k, none⟩) (by show b < _; omega)).trans hcell
        have hcy4 := (hbw4.cell (p := ⟨b2, off2 + k, none⟩) (by show b2 < _; omega)).trans hcell2
        have hb4s := hbw4.size
        have hrl := (rt_top (xs.eraseIdx k)).1
        rw [List.length_eraseIdx_of_lt hkp] at hrl
        have hrc : (rt (xs.eraseIdx k)).length ≤ 70368744177664 := by omega
        have hrc2 : (rt (xs.eraseIdx k)).length ≤ 140737488355328 := by omega
        have HP := Lib.hid hown4.inn
        have HO4 := Lib.hid hown4
        clear hb4 hbw3 hrl hown4 hcell hcell2
        go_wp2
        go_quiet ((first | (go_at_call 18; exact Calls.quiet_of_same (reval_same A4 c4 (rt (xs.eraseIdx k)) x hxb _ w4.heap.size (HP.out.drewN _) hrc2)) | (go_at_call 36; exact Calls.quiet_of_same (rinv_same _ (ev_lt (rt_bb _) _) _)) | (go_at_call 26; exact Calls.quiet_of_same (rmul_still _ _ hyb (Gf.inv_lt _) _))))
        have HC := Lib.hid (show Gf.gm y (Gf.inv (ev x (rt (xs.eraseIdx k)))) = lagc xs ys k by unfold lagc; rw [HX.out, HY.out])
        go_wp2_with fail
        rw [HC.out]
        refine (rtimes' A4 (some ⟨w4.heap.size, 0, none⟩) c4 1 _ 1 (rt (xs.eraseIdx k)) [lagc xs ys k] _ rfl rfl (((HO4.out.drewN nq).alloc _).inn) ⟨(Sl.one (w4.drewN nq) 5 _ (lagc_lt _ _ _)).more (by simp), by simp, fun h => by cases h⟩ (by simp; omega)).mono ?_
        rintro e w5 ⟨A5, c5, rfl, hown5, hb5⟩
        have hbw5 : Below wr.heap.size wr w5 := ((Gw.Below.drewN hbw4 nq).alloc (by simpa using hb4s) (.cells #[.int .u8 (lagc xs ys k : Int)] 5)).trans (hb5.mono (by simp; omega))
        have hsum := hown.kept hbw5
        have hlagl : (tr (mul (rt (xs.eraseIdx k)) [lagc xs ys k])).length ≤ 70368744177664 := Nat.le_trans (Dg.tr (lag_dg' ys hkp)) hcm
        have hthrl : (thrTo xs ys k).length ≤ 70368744177664 := Nat.le_trans (thrTo_len ys hk) hcm
        clear hbw4 hcx4 hcy4 hb5 HP HO4
        have HS := Lib.hid hsum
        have H5 := Lib.hid hown5
        clear hsum hown5
        go_wp2_with fail
        refine (radd' Ao A5 co' c5 n _ (thrTo xs ys k) (lag xs ys k) _ HN.out rfl HS.out.inn H5.out.inn (by show _ + (tr (mul _ _)).length ≤ _; omega)).mono ?_
        rintro e w6 ⟨A6, c6, rfl, hown6, hb6⟩
        have hb5s := hbw5.size
        have hown7 := hown6.base (base' := w.heap.size) (by omega)
        have hb7 := hbel.trans ((hbw5.trans (hb6.mono hb5s)).mono hbs)
        clear hbw5 hb6 hown6
        go_wp2
        go_roundw
        case rel => exact ⟨k + 1, _, A6, c6, rfl, rfl, by go_num, by omega, hown7, hb7⟩
        case measure => simp [intOf]; omega
    · obtain rfl : k = xs.length := by omega
      go_wp2_with fail
      refine (trim' Ao co' n (thrTo xs ys xs.length) wr wr.heap.size HN.out hown.inn (Nat.le_refl _) (Nat.le_trans (thrTo_len ys (Nat.le_refl _)) (by omega))).mono ?_
      rintro e w' ⟨A2, c2, rfl, hown2, hb2⟩
      go_wp2
      go_ret
      exact ⟨A2, c2, rfl, hown2.base hbs, hbel.trans (hb2.mono hbs)⟩
end Go.Proofs.Ytmcfkgjkfceomaa
