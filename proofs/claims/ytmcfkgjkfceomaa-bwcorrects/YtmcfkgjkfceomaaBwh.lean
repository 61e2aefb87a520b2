/- What the fifth laws' own first look ('answers') does: it is true. What the definition's own Wrong and SameInts (package shamrockref01) do. -/
import Derived.Test.YtmcfkgjkfceomaaBwg
import Derived.Test.YtmcfkgjkfceomaaRpd
namespace Go.Proofs.Ytmcfkgjkfceomaa
open Go.RowKit Go.Shelf Gw Pol

/-- A new block of three bytes, as a slice. -/
theorem sl_tri (w : World) (e : TypeId) (x y z : Nat) (hx : x < 256) (hy : y < 256) (hz : z < 256) : Sl (w.alloc (.cells #[.int .u8 (x : Int), .int .u8 (y : Int), .int .u8 (z : Int)] e)) (w.heap.size + 1) (some ⟨w.heap.size, 0, none⟩) [x, y, z] := fun i v hv => by
  match i, hv with
  | 0, hv => simp at hv; subst hv; exact ⟨hx, _, 0, rfl, by omega, World.cell?_alloc_new w _ e 0⟩
  | 1, hv => simp at hv; subst hv; exact ⟨hy, _, 0, rfl, by omega, World.cell?_alloc_new w _ e 1⟩
  | 2, hv => simp at hv; subst hv; exact ⟨hz, _, 0, rfl, by omega, World.cell?_alloc_new w _ e 2⟩
theorem a5_w : wrTo [5] [1, 2, 3] [5, 5, 6] 3 = [2] := by decide +kernel
theorem a5_yes : Agd [1, 2, 3] [5, 5, 6] 0 1 [5] := by
  have h : (wrTo [5] [1, 2, 3] [5, 5, 6] ([1, 2, 3] : List Nat).length).length = 1 := by decide +kernel
  exact ⟨BB.cons (by omega) BB.nil, by decide +kernel, rfl, by decide, by decide, by decide, by decide, by decide, by decide, by decide, by rw [h]; decide, by rw [h]; decide⟩
theorem ev_one (x a : Nat) : ev x [a] = a := by simp [ev, Gf.gm_zero_right]
theorem a5_no (p : List Nat) : ¬ Agd [1, 2, 3] [5, 6, 7] 0 1 p := fun h => by
  have hd := h.deg
  have hm := h.most
  match p, hd, hm with
  | [], _, hm =>
    have : (wrTo [] [1, 2, 3] [5, 6, 7] ([1, 2, 3] : List Nat).length).length = 3 := by decide +kernel
    rw [this] at hm
    omega
  | [a], _, hm =>
    have e : wrTo [a] [1, 2, 3] [5, 6, 7] 3 = (if a = 7 then (if a = 6 then (if a = 5 then [] else [0]) else (if a = 5 then [] else [0]) ++ [1]) else (if a = 6 then (if a = 5 then [] else [0]) else (if a = 5 then [] else [0]) ++ [1]) ++ [2]) := by
      simp only [wrTo, ev_one]
      rfl
    have hm2 : ((wrTo [a] [1, 2, 3] [5, 6, 7] 3).length : Int) ≤ 1 := hm
    rw [e] at hm2
    by_cases h7 : a = 7
    · rw [if_pos h7, if_neg (by omega), if_neg (by omega)] at hm2; simp at hm2
    · by_cases h6 : a = 6
      · rw [if_neg h7, if_pos h6, if_neg (by omega)] at hm2; simp at hm2
      · by_cases h5 : a = 5
        · rw [if_neg h7, if_neg h6, if_pos h5] at hm2; simp at hm2
        · rw [if_neg h7, if_neg h6, if_neg h5] at hm2; simp at hm2
  | a :: b :: r, hd, _ => simp at hd; omega
theorem a5_s5 : str [5] = { data := #[5] } := by decide +kernel
theorem tri_bb : BB [1, 2, 3] := BB.cons (by omega) (BB.cons (by omega) (BB.cons (by omega) BB.nil))

set_option maxRecDepth 100000 in
set_option maxHeartbeats 1000000 in
theorem answers_any (w : World) : Calls Try.prog 8 #[] w fun e w' => e = .returned (.bool true) ∧ Below w.heap.size w w' := by
  have A1 := Lib.hid a5_yes
  have A2 := Lib.hid a5_no
  have A3 := Lib.hid a5_w
  have A5 := Lib.hid a5_s5
  go_enter Try.func8, Try.ntmps8
  go_wp2_with fail
  refine (new_any _).mono ?_
  rintro e w1 ⟨rfl, hF, hB⟩
  have hlf := hF.lt
  have hbA : Below w1.heap.size w1 ((w1.alloc (.cells #[.int .u8 1, .int .u8 2, .int .u8 3] 5)).alloc (.cells #[.int .u8 5, .int .u8 5, .int .u8 6] 5)) := ((Below.refl _ _).alloc (Nat.le_refl _) _).alloc (by simp) _
  have hI1 : In ((w1.alloc (.cells #[.int .u8 1, .int .u8 2, .int .u8 3] 5)).alloc (.cells #[.int .u8 5, .int .u8 5, .int .u8 6] 5)) (w1.heap.size + 1 + 1) (some ⟨w1.heap.size, 0, none⟩) 3 [1, 2, 3] := ⟨((sl_tri w1 5 1 2 3 (by omega) (by omega) (by omega)).alloc (by simp) _).more (by omega), by simp, fun h => by cases h⟩
  have hI2 : In ((w1.alloc (.cells #[.int .u8 1, .int .u8 2, .int .u8 3] 5)).alloc (.cells #[.int .u8 5, .int .u8 5, .int .u8 6] 5)) (w1.heap.size + 1 + 1) (some ⟨w1.heap.size + 1, 0, none⟩) 3 [5, 5, 6] := by
    have := sl_tri (w1.alloc (.cells #[.int .u8 1, .int .u8 2, .int .u8 3] 5)) 5 5 5 6 (by omega) (by omega) (by omega)
    rw [World.size_alloc] at this
    exact ⟨this, by simp, fun h => by cases h⟩
  have HT := Lib.hid (bdecode_any w.heap.size _ _ 3 3 [1, 2, 3] [5, 5, 6] 0 1 _ (hF.below hbA hlf) (by rw [World.size_alloc, World.size_alloc]; exact hI1) (by rw [World.size_alloc, World.size_alloc]; exact hI2))
  clear hI1 hI2
  go_wp2_with fail
  refine HT.out.mono ?_
  rintro e w2 (⟨p, Ap, Aw, cp, cw, rfl, hag, hop, hoj, hb2⟩ | ⟨_, hno⟩)
  case inr => exact (hno _ A1.out).elim
  have hpe := hag.alone tri_bb A1.out
  subst hpe
  clear hag
  rw [show ([1, 2, 3] : List Nat).length = 3 from rfl, A3.out] at hoj ⊢
  have hbB := hbA.trans (hb2.mono hbA.size)
  have hF2 := hF.below hbB hlf
  clear HT hb2 hbA
  have hI1 : In ((w2.alloc (.cells #[.int .u8 1, .int .u8 2, .int .u8 3] 5)).alloc (.cells #[.int .u8 5, .int .u8 6, .int .u8 7] 5)) (w2.heap.size + 1 + 1) (some ⟨w2.heap.size, 0, none⟩) 3 [1, 2, 3] := ⟨((sl_tri w2 5 1 2 3 (by omega) (by omega) (by omega)).alloc (by simp) _).more (by omega), by simp, fun h => by cases h⟩
  have hI2 : In ((w2.alloc (.cells #[.int .u8 1, .int .u8 2, .int .u8 3] 5)).alloc (.cells #[.int .u8 5, .int .u8 6, .int .u8 7] 5)) (w2.heap.size + 1 + 1) (some ⟨w2.heap.size + 1, 0, none⟩) 3 [5, 6, 7] := by
    have := sl_tri (w2.alloc (.cells #[.int .u8 1, .int .u8 2, .int .u8 3] 5)) 5 5 6 7 (by omega) (by omega) (by omega)
    rw [World.size_alloc] at this
    exact ⟨this, by simp, fun h => by cases h⟩
  have hbC : Below w2.heap.size w2 ((w2.alloc (.cells #[.int .u8 1, .int .u8 2, .int .u8 3] 5)).alloc (.cells #[.int .u8 5, .int .u8 6, .int .u8 7] 5)) := ((Below.refl _ _).alloc (Nat.le_refl _) _).alloc (by simp) _
  have HT := Lib.hid (bdecode_any w.heap.size _ _ 3 3 [1, 2, 3] [5, 6, 7] 0 1 _ (hF2.below hbC hF2.lt) (by rw [World.size_alloc, World.size_alloc]; exact hI1) (by rw [World.size_alloc, World.size_alloc]; exact hI2))
  clear hI1 hI2
  go_wp2_with fail
  refine HT.out.mono ?_
  rintro e w3 (⟨p, _, _, _, _, rfl, hag, _⟩ | ⟨⟨rfl, hb3⟩, _⟩)
  · exact (A2.out _ hag).elim
  have hbD := hbC.trans (hb3.mono hbC.size)
  have hop3 := hop.kept hbD
  have hoj3 := hoj.kept hbD
  obtain ⟨g, rfl, _, hcg⟩ := hoj3.at_ (i := 0) (l := 2) rfl
  have hcw : 1 ≤ cw := by have := hoj3.inn.cap; simpa using this
  have hcv := conv_sl (P := Try.prog) hop3.sl Try.underlying22 Try.underlying5 Try.underlying9 cp
  rw [A5.out] at hcv
  have hcv' : (convert 22 9 (.slice Ap 1 cp)).run Try.prog w3 = .ok (.string { data := #[5] }) w3 := hcv
  have hbE := hB.trans ((hbB.trans (hbD.mono hbB.size)).mono hB.size)
  clear HT hb3 hbC hcv hop hop3 hF2 hoj hoj3
  go_wp2
  go_ret
  exact ⟨rfl, hbE⟩

/-- The places below k. -/
def WrRel (w : World) (p xs ys : List Nat) (v i : Value) (wr : World) : Prop :=
  ∃ (k : Nat) (A : Option Addr) (c : Nat), k ≤ xs.length ∧ i = .int .i64 (k : Int) ∧ v = .slice A (wrTo p xs ys k).length c ∧ OwnJ wr w.heap.size 3 A c (wrTo p xs ys k) ∧ Below w.heap.size w wr
theorem wrTo_len (p xs ys : List Nat) (k : Nat) : (wrTo p xs ys k).length ≤ k := by have := wrTo_agr p xs ys k; omega
set_option maxRecDepth 100000 in
set_option maxHeartbeats 1000000 in
theorem rwrong_any (A A1 A2 : Option Addr) (c c1 c2 : Nat) (p xs ys : List Nat) (w : World) (hp : In w w.heap.size A c p) (hx : In w w.heap.size A1 c1 xs) (hy : In w w.heap.size A2 c2 ys) (hl : xs.length ≤ ys.length) (hcm : p.length ≤ 140737488355328) (hcm2 : xs.length ≤ 1073741824) :
    Calls Try.prog 15 #[.slice A p.length c, .slice A1 xs.length c1, .slice A2 ys.length c2] w fun e w' => ∃ A3 c3, e = .returned (.slice A3 (wrTo p xs ys xs.length).length c3) ∧ OwnJ w' w.heap.size 3 A3 c3 (wrTo p xs ys xs.length) ∧ Below w.heap.size w w' := by
  obtain ⟨i0, hi0, hz0, hz1, hz2⟩ := info_parts pint_info
  go_enter Try.func15, Try.ntmps15
  go_wp2
  go_loopw [7, 8] (WrRel w p xs ys) (fun _ i _ => xs.length - (intOf i).toNat)
  case atStart => exact ⟨0, none, 0, Nat.zero_le _, rfl, rfl, OwnJ.nil _ _ _, Below.refl _ _⟩
  case round =>
    obtain ⟨k, Ao, cl, hk, rfl, rfl, hoj, hbel⟩ := hrel
    have hp' := hp.below hbel
    have hx' := hx.below hbel
    have hy' := hy.below hbel
    have hs := hbel.size
    by_cases hkp : k < xs.length
    · obtain ⟨x, b, off, hx1, hxb, rfl, hb, hcell⟩ := hx'.sl.at_ hkp
      obtain ⟨y, b2, off2, hy1, hyb, rfl, hb2, hcell2⟩ := hy'.sl.at_ (k := k) (by omega)
      have hky : k < ys.length := by omega
      have HX := Lib.hid (co_of' hx1)
      have HY := Lib.hid (co_of' hy1)
      have hwl := wrTo_len p xs ys k
      clear hx1 hy1 hx' hy'
      by_cases he : ev x p = y
      · have hB : ((ev x p : Int) != (y : Int)) = false := by rw [bne_eq_false_iff_eq]; omega
        have HA := Lib.hid (show wrTo p xs ys (k + 1) = wrTo p xs ys k by rw [wrTo, if_pos (by rw [HX.out, HY.out]; exact he)])
        have HO := Lib.hid hoj
        have HBL := Lib.hid hbel
        clear he hoj hbel
        go_wp2
        go_quiet ((go_at_call 18; exact Calls.quiet_of_same (reval_same A c p x hxb _ _ (hp'.drewN _) hcm)))
        go_wp2
        go_roundw
        case rel => exact ⟨k + 1, Ao, cl, by omega, by go_num, by rw [HA.out], by rw [HA.out]; exact HO.out.drewN nq, Gw.Below.drewN HBL.out nq⟩
        case measure => simp [intOf]; omega
      · have hB : ((ev x p : Int) != (y : Int)) = true := by rw [bne_iff_ne]; omega
        have HA := Lib.hid (show wrTo p xs ys (k + 1) = wrTo p xs ys k ++ [k] by rw [wrTo, if_neg (by rw [HX.out, HY.out]; exact he)])
        have HO := Lib.hid hoj
        have HBL := Lib.hid hbel
        clear he hoj hbel
        go_wp2
        go_quiet ((go_at_call 18; exact Calls.quiet_of_same (reval_same A c p x hxb _ _ (hp'.drewN _) hcm)))
        have hoj := HO.out.drewN nq
        have hbel := Gw.Below.drewN HBL.out nq
        have hs5 := hbel.size
        obtain ⟨W5, hW5⟩ : ∃ W5, W5 = wr.drewN nq := ⟨_, rfl⟩
        rw [← hW5] at hoj hbel hs5 ⊢
        have HO5 := Lib.hid hoj
        clear hW5 hcell hcell2 hoj hp'
        go_wp2_with (at_builtin; refine wpList_append_own _ rfl (.tmp 26) (.tmp 28) 24 rfl w.heap.size 3 i0 (.int .i64 0) 1 8 Try.underlying24 hi0 hz0 hz1 hz2 rfl (by decide) (.slice Ao (wrTo p xs ys k).length cl) (wrTo p xs ys k).length (intv (wrTo p xs ys k)) rfl (HO5.out.alloc _) ⟨W5.heap.size, 0, none⟩ 1 1 [.int .i64 (k : Int)] rfl rfl (fun j u hj => by
            match j, hj with
            | 0, hj => simp at hj; subst hj; exact cell_new W5 _ _) (fun u hu => by simp at hu; subst hu; rfl) (by simp only [maxLen]; omega) (by omega) (by rw [World.size_alloc]; omega) ?_; intro v' w6 hown6 hgr6 _)
        obtain ⟨A9, c9, rfl, hO9⟩ := OwnJ.mk' (L := wrTo p xs ys k ++ [k]) (by rw [intv_app]; exact hown6)
        have hB9 : Below w.heap.size w w6 := (hbel.trans (((Below.refl _ W5).alloc (Nat.le_refl _) _).mono hs5)).grown hgr6 (by rw [World.size_alloc]; omega) (fun b hb => (HO5.out.block hb).1)
        have H9 := Lib.hid hO9
        clear hO9 hown6 hgr6
        go_roundw
        case rel => exact ⟨k + 1, A9, c9, by omega, by go_num, by rw [HA.out], by rw [HA.out]; exact H9.out, hB9⟩
        case measure => simp [intOf]; omega
    · obtain rfl : k = xs.length := by omega
      go_wp2
      go_ret
      exact ⟨Ao, cl, rfl, hoj, hbel⟩

/-- Are they the same numbers? -/
theorem list_diff {L M : List Nat} (h : L.length = M.length) (hne : L ≠ M) : ∃ k, k < L.length ∧ L[k]? ≠ M[k]? := by
  refine Decidable.byContradiction fun hn => hne (List.ext_getElem? fun i => ?_)
  by_cases hi : i < L.length
  · refine Decidable.byContradiction fun h2 => hn ⟨i, hi, h2⟩
  · rw [List.getElem?_eq_none (by omega), List.getElem?_eq_none (by omega)]
set_option maxRecDepth 100000 in
set_option maxHeartbeats 1000000 in
theorem sameInts_any (A A' : Option Addr) (c c' : Nat) (L M : List Nat) (w : World) (hL : InJ w A c L) (hM : InJ w A' c' M) (hcm : L.length ≤ 1073741824) :
    Calls Try.prog 14 #[.slice A L.length c, .slice A' M.length c'] w fun e w' => e = .returned (.bool (decide (L = M))) ∧ ∃ n, w' = w.drewN n := by
  have hcap := hL.cap
  have hcap2 := hM.cap
  by_cases hlen : L.length = M.length
  · go_enter Try.func14, Try.ntmps14
    have hb : (((L.length : Int)) != ((M.length : Int))) = false := by rw [bne_eq_false_iff_eq]; omega
    have HLEN := Lib.hid hlen
    clear hlen
    go_wp2
    go_loopw [5] (fun i wr => ∃ k n : Nat, k ≤ L.length ∧ i = .int .i64 (k : Int) ∧ (∀ j, j < k → L[j]? = M[j]?) ∧ wr = w.drewN n) (fun i _ => L.length - (intOf i).toNat)
    case atStart => exact ⟨0, 0, Nat.zero_le _, rfl, fun j hj => by omega, rfl⟩
    case round =>
      obtain ⟨k, n, hk, rfl, hsame, hwr⟩ := hrel
      have hL' : InJ wr A c L := by rw [hwr]; exact hL.drewN n
      have hM' : InJ wr A' c' M := by rw [hwr]; exact hM.drewN n
      have HW := Lib.hid hwr
      clear hwr hL hM
      by_cases hkp : k < L.length
      · obtain ⟨x, b, off, hx1, rfl, hcell⟩ := hL'.at_ hkp
        obtain ⟨y, b2, off2, hy1, rfl, hcell2⟩ := hM'.at_ (k := k) (by rw [← HLEN.out]; exact hkp)
        have hkM : k < M.length := by rw [← HLEN.out]; exact hkp
        by_cases he : x = y
        · have hB : ((x : Int) != (y : Int)) = false := by rw [bne_eq_false_iff_eq]; omega
          have HS := Lib.hid (show ∀ j, j < k + 1 → L[j]? = M[j]? from fun j hj => by
            by_cases e : j = k
            · rw [e, hx1, hy1, he]
            · exact hsame j (by omega))
          clear he hx1 hy1 hsame hL' hM'
          go_wp2
          go_quiet (fail)
          go_wp2
          go_roundw
          case rel => exact ⟨k + 1, n + nq, by omega, by go_num, HS.out, by rw [HW.out, World.drewN_drewN]⟩
          case measure => simp [intOf]; omega
        · have hB : ((x : Int) != (y : Int)) = true := by rw [bne_iff_ne]; omega
          have HN := Lib.hid (show decide (L = M) = false from decide_eq_false (fun e => he (by rw [e, hy1] at hx1; injection hx1 with hx1; exact hx1.symm)))
          clear he hx1 hy1 hsame hL' hM'
          go_wp2
          go_quiet (fail)
          go_wp2
          go_ret
          exact ⟨by rw [HN.out]; rfl, n + nq, by rw [HW.out, World.drewN_drewN]⟩
      · obtain rfl : k = L.length := by omega
        have HY := Lib.hid (show decide (L = M) = true from decide_eq_true (List.ext_getElem? fun j => by
          by_cases hj : j < L.length
          · exact hsame j hj
          · rw [List.getElem?_eq_none (by omega), List.getElem?_eq_none (by rw [← HLEN.out]; omega)]))
        clear hsame
        go_wp2
        go_ret
        exact ⟨by rw [HY.out]; rfl, n, HW.out⟩
  · have hb : (((L.length : Int)) != ((M.length : Int))) = true := by rw [bne_iff_ne]; omega
    have HN := Lib.hid (show decide (L = M) = false from decide_eq_false (fun e => hlen (by rw [e])))
    clear hlen
    go_enter Try.func14, Try.ntmps14
    go_wp2
    go_ret
    exact ⟨by rw [HN.out]; rfl, 0, rfl⟩
end Go.Proofs.Ytmcfkgjkfceomaa
