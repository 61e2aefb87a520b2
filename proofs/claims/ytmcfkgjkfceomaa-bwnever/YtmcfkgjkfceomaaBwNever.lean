/- For every input BwNever returns true, and every argument reads behind the call as it did before: no condition. -/
import Derived.Test.YtmcfkgjkfceomaaRows
import Derived.ProofKit
import Derived.OpenShut
import Derived.SizedLaws
import Derived.ChangeOld
import Derived.Carry
import Derived.Test.YtmcfkgjkfceomaaLawb
import Derived.Test.YtmcfkgjkfceomaaBwi
namespace Go.Proofs.Ytmcfkgjkfceomaa.bwNever
open Go.ChangeShapes Go.WideShapes Go.ChangeAt Go.RowKit Go.Shelf Gw Pol

theorem own : ownKnob Try.prog.godebug = none := by kernel_rfl
theorem laidOut : laidOutB Try.prog = true := by kernel_rfl
def NvRel (w : World) (p xs t : List Nat) (v tn i : Value) (wr : World) : Prop :=
  ∃ (k : Nat) (A : Option Addr) (c : Nat), k ≤ xs.length ∧ i = .int .i64 (k : Int) ∧ v = .slice A k c ∧ tn = .int .i64 ((wnt t k).length : Int) ∧ Gw.Own wr w.heap.size 5 A c (tys p xs t k) ∧ Below w.heap.size w wr
set_option maxRecDepth 100000 in
set_option maxHeartbeats 2000000 in
theorem walk_nat (A0 : Option Addr) (c0 : Nat) (l0 : List Nat) (A1 : Option Addr) (c1 : Nat) (l1 : List Nat) (A2 : Option Addr) (c2 : Nat) (l2 : List Nat) (a b : Nat) (ha : a < 256) (hb : b < 256) (w : World) (w0 : In w w.heap.size A0 c0 l0) (s0 : c0 ≤ 140737488351232) (w1 : In w w.heap.size A1 c1 l1) (w2 : In w w.heap.size A2 c2 l2) (s2 : c2 ≤ 140737488351232) :
    Calls Try.prog 7 #[.slice A0 l0.length c0, .slice A1 l1.length c1, .slice A2 l2.length c2, .int .u8 (a : Int), .int .u8 (b : Int)] w fun e w' => e = .returned (.bool true) ∧ Below w.heap.size w w' := by
  obtain ⟨i0, hi0, hz0, hz1, hz2⟩ := info_parts byte_info
  have hcap0 := w0.cap
  have hcap2 := w2.cap
  obtain ⟨n, hn⟩ : ∃ n, n = a % 8 := ⟨_, rfl⟩
  have hn8 : n < 8 := by omega
  have hrem : ((a : Int)).tmod 8 = (n : Int) := by rw [hn, Int.tmod_eq_emod_of_nonneg (by omega)]; omega
  obtain ⟨m, hm⟩ : ∃ m, m = b % 6 := ⟨_, rfl⟩
  have hm6 : m < 6 := by omega
  have hrem2 : ((b : Int)).tmod 6 = (m : Int) := by rw [hm, Int.tmod_eq_emod_of_nonneg (by omega)]; omega
  clear hn hm
  have HT := Lib.hid (trim_any A0 c0 l0 w _ w0 (Nat.le_refl _) (by omega))
  obtain ⟨t, ht⟩ : ∃ t, t = (tr l0).length := ⟨_, rfl⟩
  have htl : t ≤ l0.length := by rw [ht]; exact tr_len l0
  rw [← ht] at HT
  have HTL := Lib.hid ht
  clear ht
  by_cases hA : n + 1 < t
  · go_enter Try.func7, Try.ntmps7
    go_wp2_with fail
    refine HT.out.mono ?_
    rintro e w2 ⟨A2, c2, rfl, ho2, hb2⟩
    clear HT ho2
    go_wp2_with fail
    refine (answers_any _).mono ?_
    rintro e w3 ⟨rfl, hb3⟩
    go_wp2
    go_ret
    exact ⟨rfl, hb2.trans (hb3.mono hb2.size)⟩
  by_cases hC : 40 < l1.length
  · go_enter Try.func7, Try.ntmps7
    go_wp2_with fail
    refine HT.out.mono ?_
    rintro e w2 ⟨A2, c2, rfl, ho2, hb2⟩
    clear HT ho2
    go_wp2_with fail
    refine (answers_any _).mono ?_
    rintro e w3 ⟨rfl, hb3⟩
    go_wp2
    go_ret
    exact ⟨rfl, hb2.trans (hb3.mono hb2.size)⟩
  cases hu : unB l1 with
  | false =>
    have HUB := Lib.hid hu
    clear hu
    go_enter Try.func7, Try.ntmps7
    go_wp2_with fail
    refine HT.out.mono ?_
    rintro e w2 ⟨A2, c2, rfl, ho2, hb2⟩
    have HU := Lib.hid (unlike_any A1 c1 l1 w2 _ ((w1.below hb2).more hb2.size) (by omega))
    rw [HUB.out] at HU
    clear HT ho2
    go_wp2_with fail
    refine HU.out.mono ?_
    rintro e w3 ⟨rfl, m, rfl⟩
    clear HU
    go_wp2_with fail
    refine (answers_any _).mono ?_
    rintro e w4 ⟨rfl, hb4⟩
    go_wp2
    go_ret
    exact ⟨rfl, (Gw.Below.drewN hb2 m).trans (hb4.mono hb2.size)⟩
  | true =>
    have HUB := Lib.hid hu
    clear hu
    go_enter Try.func7, Try.ntmps7
    go_wp2_with fail
    refine HT.out.mono ?_
    rintro e w9 ⟨A9, c9, rfl, ho9, hb9⟩
    have HU := Lib.hid (unlike_any A1 c1 l1 w9 _ ((w1.below hb9).more hb9.size) (by omega))
    rw [HUB.out] at HU
    clear HT ho9
    go_wp2_with fail
    refine HU.out.mono ?_
    rintro e w3 ⟨rfl, mm, hw3⟩
    have hB3 : Below w.heap.size w w3 := by rw [hw3]; exact Gw.Below.drewN hb9 mm
    clear HU hw3 hb9
    go_wp2
    go_loopw [13, 14, 15] (NvRel w l0 l1 l2) (fun _ _ i _ => l1.length - (intOf i).toNat)
    case atStart => exact ⟨0, none, 0, Nat.zero_le _, rfl, rfl, rfl, Own.none_ _ _ _, hB3⟩
    case round =>
      clear hB3
      obtain ⟨k, Ao, co', hk, rfl, rfl, rfl, hown, hbel⟩ := hrel
      have hbs := hbel.size
      have hwl := wnt_len l2 k
      by_cases hkp : k < l1.length
      · obtain ⟨x, bx, ox, hx, hxb, rfl, hbx, hcx⟩ := (w1.below hbel).sl.at_ hkp
        have HX := Lib.hid (co_of' hx)
        have HE := Lib.hid (reval_any A0 c0 l0 x hxb wr _ ((w0.below hbel).more hbs) (by omega))
        have hev := ev_lt w0.bb x
        clear hx
        obtain ⟨y, hy⟩ : ∃ y, y = ev x l0 := ⟨_, rfl⟩
        rw [← hy] at HE hev
        have HY := Lib.hid hy
        clear hy
        by_cases hkt : k < l2.length
        · obtain ⟨z, bz, oz, hz, hzb, rfl, hbz, hcz⟩ := (w2.below hbel).sl.at_ hkt
          have HZ := Lib.hid (co_of' hz)
          clear hz
          by_cases hz0' : z = 0
          · subst hz0'
            have HW := Lib.hid (show wnt l2 (k + 1) = wnt l2 k by rw [wnt, if_pos HZ.out])
            have HV := Lib.hid (show ev (co l1 k) l0 ^^^ co l2 k = y by rw [HZ.out, HX.out, HY.out, Nat.xor_zero])
            have HOW := Lib.hid hown
            clear hown
            go_wp2_with (first | (go_at_call 18; refine HE.out.mono ?_; rintro e wq ⟨rfl, rfl⟩) | (at_builtin; refine wpList_app rfl (.tmp 74) (.tmp 76) 22 rfl w.heap.size 5 i0 _ Try.underlying22 hi0 hz0 hz1 hz2 rfl Ao k co' (tys l0 l1 l2 k) rfl (tys_len _ _ _ _).symm (HOW.out.alloc _) _ _ 1 1 [y] rfl rfl (fun h => by cases h) (Sl.one wr 5 _ hev) (by rw [tys_len]; simp; omega) (by simp; omega) ?_; intro A8 c8 w8 hown8 hgr8))
            obtain ⟨hO8, hB8⟩ := tys_step HV.out hbel HOW.out hown8 hgr8
            clear hown8 hgr8
            go_roundw
            case rel => exact ⟨k + 1, A8, c8, by omega, by go_num, by rw [tys_len], by rw [HW.out], hO8, hB8⟩
            case measure => simp [intOf]; omega
          · have HW := Lib.hid (show (wnt l2 (k + 1)).length = (wnt l2 k).length + 1 by rw [wnt, if_neg (by rw [HZ.out]; exact hz0'), List.length_append]; rfl)
            have HV := Lib.hid (show ev (co l1 k) l0 ^^^ co l2 k = y ^^^ z by rw [HZ.out, HX.out, HY.out])
            have hne : ((z : Int) != 0) = true := by rw [bne_iff_ne]; omega
            have hxor : bits .xor .u8 (y : Int) (z : Int) = ((y ^^^ z : Nat) : Int) := u8_xor_nat _ _ hev hzb
            have hxl := Gf.xor_lt hev hzb
            have HOW := Lib.hid hown
            clear hown
            go_wp2_with (first | (go_at_call 18; refine HE.out.mono ?_; rintro e wq ⟨rfl, rfl⟩) | (at_builtin; refine wpList_app rfl (.tmp 74) (.tmp 76) 22 rfl w.heap.size 5 i0 _ Try.underlying22 hi0 hz0 hz1 hz2 rfl Ao k co' (tys l0 l1 l2 k) rfl (tys_len _ _ _ _).symm (HOW.out.alloc _) _ _ 1 1 [y ^^^ z] rfl rfl (fun h => by cases h) (Sl.one wr 5 _ hxl) (by rw [tys_len]; simp; omega) (by simp; omega) ?_; intro A8 c8 w8 hown8 hgr8))
            obtain ⟨hO8, hB8⟩ := tys_step HV.out hbel HOW.out hown8 hgr8
            clear hown8 hgr8
            go_roundw
            case rel => exact ⟨k + 1, A8, c8, by omega, by go_num, by rw [tys_len], by rw [HW.out]; go_num, hO8, hB8⟩
            case measure => simp [intOf]; omega
        · have HZ := Lib.hid (co_far (p := l2) (i := k) (by omega))
          have HW := Lib.hid (show wnt l2 (k + 1) = wnt l2 k by rw [wnt, if_pos HZ.out])
          have HV := Lib.hid (show ev (co l1 k) l0 ^^^ co l2 k = y by rw [HZ.out, HX.out, HY.out, Nat.xor_zero])
          have HOW := Lib.hid hown
          clear hown
          go_wp2_with (first | (go_at_call 18; refine HE.out.mono ?_; rintro e wq ⟨rfl, rfl⟩) | (at_builtin; refine wpList_app rfl (.tmp 74) (.tmp 76) 22 rfl w.heap.size 5 i0 _ Try.underlying22 hi0 hz0 hz1 hz2 rfl Ao k co' (tys l0 l1 l2 k) rfl (tys_len _ _ _ _).symm (HOW.out.alloc _) _ _ 1 1 [y] rfl rfl (fun h => by cases h) (Sl.one wr 5 _ hev) (by rw [tys_len]; simp; omega) (by simp; omega) ?_; intro A8 c8 w8 hown8 hgr8))
          obtain ⟨hO8, hB8⟩ := tys_step HV.out hbel HOW.out hown8 hgr8
          clear hown8 hgr8
          go_roundw
          case rel => exact ⟨k + 1, A8, c8, by omega, by go_num, by rw [tys_len], by rw [HW.out], hO8, hB8⟩
          case measure => simp [intOf]; omega
      · obtain rfl : k = l1.length := by omega
        have HNV := Lib.hid (fun (q : List Nat) (h : Agd l1 (tys l0 l1 l2 l1.length) (n : Int) (m : Int) q) (h1 : (wnt l2 l1.length).length ≤ m) => agd_never w0.bb w1.bb (by rw [← HTL.out]; omega) h h1)
        have HTY := Lib.hid (tys_len l0 l1 l2 l1.length)
        have HOW := Lib.hid hown
        clear hown
        go_wp2_with fail
        refine (new_any _).mono ?_
        rintro e w4 ⟨rfl, hF, hb4⟩
        have hB4 := hbel.trans (hb4.mono hbs)
        have HD := Lib.hid (bdecode_any _ A1 Ao c1 co' l1 (tys l0 l1 l2 l1.length) (n : Int) (m : Int) w4 hF ((w1.below hB4).more hB4.size) ((HOW.out.kept hb4).inn))
        rw [HTY.out] at HD
        clear hb4 hF
        go_wp2_with fail
        refine HD.out.mono ?_
        rintro e w5 h5
        by_cases htu : m < (wnt l2 l1.length).length
        · have hB5 : Below w.heap.size w w5 := by
            rcases h5 with ⟨_, _, _, _, _, _, _, _, _, h⟩ | ⟨⟨_, h⟩, _⟩
            · exact hB4.trans (h.mono hB4.size)
            · exact hB4.trans (h.mono hB4.size)
          have htu2 : (m : Int) < ((wnt l2 l1.length).length : Int) := by omega
          rcases h5 with ⟨q, Aq, Aw, cq, cw, rfl, hag, hop, hoj, hb5⟩ | ⟨⟨rfl, hb5⟩, hno⟩
          · clear hag hop hoj
            go_wp2_with fail
            refine (answers_any _).mono ?_
            rintro e w6 ⟨rfl, hb6⟩
            go_wp2
            go_ret
            exact ⟨rfl, hB5.trans (hb6.mono hB5.size)⟩
          · go_wp2_with fail
            refine (answers_any _).mono ?_
            rintro e w6 ⟨rfl, hb6⟩
            go_wp2
            go_ret
            exact ⟨rfl, hB5.trans (hb6.mono hB5.size)⟩
        · have htu2 : ¬ ((m : Int) < ((wnt l2 l1.length).length : Int)) := by omega
          rcases h5 with ⟨q, Aq, Aw, cq, cw, rfl, hag, hop, hoj, hb5⟩ | ⟨⟨rfl, hb5⟩, hno⟩
          · have hB5 := hB4.trans (hb5.mono hB4.size)
            have hq := HNV.out q hag (by omega)
            subst hq
            clear hag hoj hb5
            go_wp2_with fail
            refine (answers_any _).mono ?_
            rintro e w6 ⟨rfl, hb6⟩
            have hB6 := hB5.trans (hb6.mono hB5.size)
            have hop6 := hop.kept hb6
            clear hop hb6
            have HT2 := Lib.hid (trim_any A0 c0 l0 w6 _ ((w0.below hB6).more hB6.size) (Nat.le_refl _) (by omega))
            go_wp2_with fail
            refine HT2.out.mono ?_
            rintro e w7 ⟨A7, c7, rfl, ho7, hb7⟩
            have hB7 := hB6.trans (hb7.mono hB6.size)
            have HS := Lib.hid (same_any Aq A7 cq c7 (tr l0) (tr l0) w7 _ _ (hop6.kept hb7).inn ho7.inn)
            rw [decide_eq_true (rfl : tr l0 = tr l0)] at HS
            clear HT2 hop6 ho7 hb7
            go_wp2_with fail
            refine HS.out.mono ?_
            rintro e w8 ⟨rfl, rfl⟩
            go_wp2
            go_ret
            exact ⟨rfl, hB7⟩
          · have hB5 := hB4.trans (hb5.mono hB4.size)
            go_wp2_with fail
            refine (answers_any _).mono ?_
            rintro e w6 ⟨rfl, hb6⟩
            go_wp2
            go_ret
            exact ⟨rfl, hB5.trans (hb6.mono hB5.size)⟩
theorem walk (A0 : Option Addr) (c0 : Nat) (l0 : List Nat) (A1 : Option Addr) (c1 : Nat) (l1 : List Nat) (A2 : Option Addr) (c2 : Nat) (l2 : List Nat) (a3 a4 : Int) (w : World) (w0 : In w w.heap.size A0 c0 l0) (s0 : c0 ≤ 140737488351232) (w1 : In w w.heap.size A1 c1 l1) (_s1 : c1 ≤ 140737488351232) (w2 : In w w.heap.size A2 c2 l2) (s2 : c2 ≤ 140737488351232) (w3 : (Lit.int .u8 a3).wf = true) (w4 : (Lit.int .u8 a4).wf = true) :
    Calls Try.prog 7 #[.slice A0 l0.length c0, .slice A1 l1.length c1, .slice A2 l2.length c2, .int .u8 a3, .int .u8 a4] w fun e w' => e = .returned (.bool true) ∧ Below w.heap.size w w' := by
  obtain ⟨h1, h2⟩ := bounds_u8 w3
  obtain ⟨a, rfl⟩ := Int.eq_ofNat_of_zero_le h1
  obtain ⟨h3, h4⟩ := bounds_u8 w4
  obtain ⟨b, rfl⟩ := Int.eq_ofNat_of_zero_le h3
  exact walk_nat A0 c0 l0 A1 c1 l1 A2 c2 l2 a b (by omega) (by omega) w w0 s0 w1 w2 s2

set_option maxRecDepth 100000 in
theorem lifted (os : Os) (started : os.Started) (H : Type) (enc : TypeId × Value → H) :
    ReturnsInHanded {} Try.checked os 7 .any (Rows.bwNeverSpec.pre6 enc Try.prog Try.f7 Rows.bwNeverRow.domain false) (Rows.bwNeverSpec.post enc Try.prog Try.f7 false true false false) := by
  refine returnsInHanded_of_change_sized (C := Try.checked) own started (by kernel_rfl) Try.func7
    (ChangeSpec.witness6 (enc := enc) (C := Try.checked) false ⟨#[], #[.slice none 0 0, .slice none 0 0, .slice none 0 0, .int .u8 0, .int .u8 0], []⟩ 8 (by kernel_rfl) (by kernel_rfl) (by kernel_rfl) (by kernel_rfl)) ?_
  intro W base args ds gs before hval0 hW _hcnd hsz0 _
  have hval : ∀ (j : Nat) t v, Try.f7.params[j]? = some t → args[j]? = some v → Value.okWide Try.prog W .any base t v := hval0
  have hW' := hW
  obtain ⟨p, q, hA0, hV, rfl, _hfz, _hnd⟩ := hW
  have hA : DataW.TrodAll enc Try.prog W 0 (fun _ => true) true Try.f7.params.toList args.toList ds p := hA0
  have hsz : (DataW.weightsEach Try.prog (Try.f7.params.toList ++ Rows.bwNeverSpec.plain.varTypes Try.prog) (ds ++ gs)).all (· ≤ reachBytes) = true := hsz0
  rw [Try.params7] at hA hval hsz
  obtain ⟨v0, vs0, d0, ds0, p0, q0, hargs, rfl, rfl, h0, r0⟩ := trodAll_cons hA
  obtain ⟨v1, vs1, d1, ds1, p1, q1, rfl, rfl, rfl, h1, r1⟩ := trodAll_cons r0
  obtain ⟨v2, vs2, d2, ds2, p2, q2, rfl, rfl, rfl, h2, r2⟩ := trodAll_cons r1
  obtain ⟨v3, vs3, d3, ds3, p3, q3, rfl, rfl, rfl, h3, r3⟩ := trodAll_cons r2
  obtain ⟨v4, vs4, d4, ds4, p4, q4, rfl, rfl, rfl, h4, r4⟩ := trodAll_cons r3
  obtain ⟨rfl, rfl, rfl⟩ := trodAll_nil r4
  obtain rfl : args = #[v0, v1, v2, v3, v4] := by cases args; simp_all
  obtain ⟨rfl, rfl⟩ := trodVars_none hV
  have k0 := h0
  have lt0 : ∀ x ∈ p0, x.block < W.heap.size := by obtain ⟨m, hm⟩ := k0; exact DataW.trod_lt m _ _ _ hm
  obtain ⟨A0, c0, l0, rfl, w0, sz0⟩ := open_bytes Try.underlying22 Try.underlying5 (by kernel_rfl) (hval 0 22 v0 rfl rfl) h0
  have s0 := sized_bytes hsz (j := 0) (t := 22) (e := 5) rfl rfl Try.underlying22 (by kernel_rfl) sz0
  have k1 := h1
  have lt1 : ∀ x ∈ p1, x.block < W.heap.size := by obtain ⟨m, hm⟩ := k1; exact DataW.trod_lt m _ _ _ hm
  obtain ⟨A1, c1, l1, rfl, w1, sz1⟩ := open_bytes Try.underlying22 Try.underlying5 (by kernel_rfl) (hval 1 22 v1 rfl rfl) h1
  have s1 := sized_bytes hsz (j := 1) (t := 22) (e := 5) rfl rfl Try.underlying22 (by kernel_rfl) sz1
  have k2 := h2
  have lt2 : ∀ x ∈ p2, x.block < W.heap.size := by obtain ⟨m, hm⟩ := k2; exact DataW.trod_lt m _ _ _ hm
  obtain ⟨A2, c2, l2, rfl, w2, sz2⟩ := open_bytes Try.underlying22 Try.underlying5 (by kernel_rfl) (hval 2 22 v2 rfl rfl) h2
  have s2 := sized_bytes hsz (j := 2) (t := 22) (e := 5) rfl rfl Try.underlying22 (by kernel_rfl) sz2
  obtain ⟨a3, rfl, rfl, rfl, w3⟩ := open_int Try.underlying5 (hval 3 5 v3 rfl rfl) h3
  obtain ⟨a4, rfl, rfl, rfl, w4⟩ := open_int Try.underlying5 (hval 4 5 v4 rfl rfl) h4
  clear hA0 hval0 hsz0 hsz
  refine (walk A0 c0 l0 A1 c1 l1 A2 c2 l2 a3 a4 W w0 s0 w1 s1 w2 s2 w3 w4).mono fun e W' ⟨he, bel⟩ => ?_
  subst he
  exact ⟨_, rfl, _, _, _, [], _, [], hW', trodAll_mk1 (shut_bool Try.underlying4 _), (trodAll_cons_mk (Below.trod laidOut (by kernel_rfl) (of_decide_eq_true (by kernel_rfl)) k0 bel lt0) (trodAll_cons_mk (Below.trod laidOut (by kernel_rfl) (of_decide_eq_true (by kernel_rfl)) k1 bel lt1) (trodAll_cons_mk (Below.trod laidOut (by kernel_rfl) (of_decide_eq_true (by kernel_rfl)) k2 bel lt2) (trodAll_cons_mk (shut_int Try.underlying5 w3) (trodAll_cons_mk (shut_int Try.underlying5 w4) trodAll_mk0))))), rfl, bel.frame _, fun h => by cases h⟩

theorem over : Rows.bwNeverRow.holds Try.pinned (OpenSpec.ofChange Rows.bwNeverSpec) :=
  OpenClaim.holds_of_wide 7 Try.f7 rfl rfl rfl rfl rfl rfl rfl ⟨rfl, rfl, rfl, rfl, rfl⟩ rfl rfl rfl rfl rfl (by kernel_rfl) Try.func7 (by kernel_rfl)
    (of_decide_eq_true (by kernel_rfl)) (by unfold Func.isWrapper; first | (rw [if_pos (by decide +kernel)]; kernel_rfl) | (rw [if_neg (by decide +kernel)]; exact ⟨rfl, rfl⟩))
    (fun os started H enc _ => lifted os started H enc)

end Go.Proofs.Ytmcfkgjkfceomaa.bwNever
namespace Go.Proofs.Ytmcfkgjkfceomaa
/-- The statement. -/
theorem bwNever_holds : Rows.BwNeverSaid := bwNever.over
#print axioms bwNever_holds
end Go.Proofs.Ytmcfkgjkfceomaa

