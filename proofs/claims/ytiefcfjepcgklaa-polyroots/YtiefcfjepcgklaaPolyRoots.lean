/- For every input PolyRoots returns true, and every argument reads behind the call as it did before: no condition. -/
import Derived.Test.YtiefcfjepcgklaaRows
import Derived.ProofKit
import Derived.OpenShut
import Derived.SizedLaws
import Derived.ChangeOld
import Derived.Carry
import Derived.Test.YtiefcfjepcgklaaLawb
import Derived.Test.YtiefcfjepcgklaaPlw
namespace Go.Proofs.Ytiefcfjepcgklaa.polyRoots
open Go.ChangeShapes Go.WideShapes Go.ChangeAt Go.RowKit Go.Shelf Gw Pol

theorem own : ownKnob Try.prog.godebug = none := by kernel_rfl
theorem laidOut : laidOutB Try.prog = true := by kernel_rfl
/-- Is x among the first k? -/
def inB (xs : List Nat) (x k : Nat) : Bool := decide (x ∈ xs.take k)
theorem inB_succ {xs : List Nat} {x k y : Nat} (h : xs[k]? = some y) : inB xs x (k + 1) = (inB xs x k || decide (y = x)) := by
  unfold inB
  rw [← take_snoc h, Bool.eq_iff_iff]
  simp only [List.mem_append, List.mem_singleton, Bool.or_eq_true, decide_eq_true_eq]
  exact ⟨fun h => h.imp id Eq.symm, fun h => h.imp id Eq.symm⟩
theorem rt_deg (xs : List Nat) : (tr (rt xs)).length = xs.length + 1 := by
  have h := rt_top xs
  rw [tr_self (.inr (by rw [h.1]; show co (rt xs) xs.length ≠ 0; rw [h.2]; omega)), h.1]
theorem zero_in {xs : List Nat} (h : BB xs) {x : Nat} (hx : x < 256) : (((ev x (rt xs) : Nat) : Int) == 0) = inB xs x xs.length := by
  unfold inB
  rw [List.take_length, Bool.eq_iff_iff, beq_iff_eq, decide_eq_true_eq, ← ev_rt_zero h hx]
  omega
set_option maxRecDepth 100000 in
set_option maxHeartbeats 1000000 in
theorem walk_no (A0 : Option Addr) (c0 : Nat) (l0 : List Nat) (A1 : Option Addr) (c1 : Nat) (l1 : List Nat) (A2 : Option Addr) (c2 : Nat) (l2 : List Nat) (x : Nat) (w : World) (hsh : shB [l0.length, l1.length, l2.length] = false) :
    Calls Try.prog 8 #[.slice A0 l0.length c0, .slice A1 l1.length c1, .slice A2 l2.length c2, .int .u8 (x : Int)] w fun e w' => e = .returned (.bool true) ∧ Below w.heap.size w w' := by
  have HS := Lib.hid (short_any w.heap.size 3 [l0.length, l1.length, l2.length] _ (slRow_three w 22 A0 A1 A2 l0.length c0 l1.length c1 l2.length c2) (by simp))
  have hBa := (Below.refl w.heap.size w).alloc (Nat.le_refl _) (.cells #[.slice A0 l0.length c0, .slice A1 l1.length c1, .slice A2 l2.length c2] 22)
  rw [hsh] at HS
  clear hsh
  go_enter Try.func8, Try.ntmps8
  go_wp2_with fail
  refine HS.out.mono ?_
  rintro e w2 ⟨rfl, rfl⟩
  clear HS
  go_wp2_with fail
  refine (answers_any _).mono ?_
  rintro e w3 ⟨rfl, hB⟩
  go_wp2
  go_ret
  exact ⟨rfl, hBa.trans (hB.mono hBa.size)⟩
set_option maxRecDepth 100000 in
set_option maxHeartbeats 1000000 in
theorem walk_yes (A0 : Option Addr) (c0 : Nat) (l0 : List Nat) (A1 : Option Addr) (c1 : Nat) (l1 : List Nat) (A2 : Option Addr) (c2 : Nat) (l2 : List Nat) (x : Nat) (hx : x < 256) (w : World) (w0 : In w w.heap.size A0 c0 l0) (w1 : In w w.heap.size A1 c1 l1) (w2 : In w w.heap.size A2 c2 l2)
    (hsh : shB [l0.length, l1.length, l2.length] = true) :
    Calls Try.prog 8 #[.slice A0 l0.length c0, .slice A1 l1.length c1, .slice A2 l2.length c2, .int .u8 (x : Int)] w fun e w' => e = .returned (.bool true) ∧ Below w.heap.size w w' := by
  have HS := Lib.hid (short_any w.heap.size 3 [l0.length, l1.length, l2.length] _ (slRow_three w 22 A0 A1 A2 l0.length c0 l1.length c1 l2.length c2) (by simp))
  have hBa := (Below.refl w.heap.size w).alloc (Nat.le_refl _) (.cells #[.slice A0 l0.length c0, .slice A1 l1.length c1, .slice A2 l2.length c2] 22)
  rw [hsh] at HS
  obtain ⟨hl0, hl1, hl2⟩ := shB_three hsh
  clear hsh
  have HZ := Lib.hid (zero_in w0.bb hx)
  have HRD := Lib.hid (rt_deg l0)
  have hrl := (rt_top l0).1
  have HRL := Lib.hid hrl
  clear hrl
  have HEA := Lib.hid (show ev x (tr (add l1 l2)) = ev x l1 ^^^ ev x l2 by rw [ev_tr, ev_add w1.bb w2.bb hx])
  have HEM := Lib.hid (show ev x (tr (mul l1 l2)) = Gf.gm (ev x l1) (ev x l2) by rw [ev_tr, ev_mul w1.bb w2.bb hx])
  have he1 := ev_lt w1.bb x
  have he2 := ev_lt w2.bb x
  have hxor : bits .xor .u8 (ev x l1 : Int) (ev x l2 : Int) = ((ev x l1 ^^^ ev x l2 : Nat) : Int) := u8_xor_nat _ _ he1 he2
  go_enter Try.func8, Try.ntmps8
  go_wp2_with fail
  refine HS.out.mono ?_
  rintro e w3 ⟨rfl, rfl⟩
  clear HS
  go_wp2_with fail
  refine (new_any _).mono ?_
  rintro e w4 ⟨rfl, hF, hB⟩
  have hB4 := hBa.trans (hB.mono hBa.size)
  rw [World.size_alloc] at hF
  clear hB hBa
  have hlf := hF.lt
  go_wp2_with fail
  refine (proots_any _ A0 c0 l0 w4 hF ((w0.below hB4).more hB4.size) (by omega)).mono ?_
  rintro e w5 ⟨A5, c5, rfl, ho5, hb5⟩
  have hB5 := hB4.trans (hb5.mono hB4.size)
  have hF5 := hF.below hb5 hlf
  have hb45s := hb5.size
  clear hb5 hF
  go_wp2
  go_loop [11, 12] (fun t i => ∃ k : Nat, k ≤ l0.length ∧ i = .int .i64 (k : Int) ∧ t = .bool (inB l0 x k)) (fun _ i => l0.length - (intOf i).toNat)
  case atStart => exact ⟨0, Nat.zero_le _, rfl, rfl⟩
  case round =>
    obtain ⟨k, hk, rfl, rfl⟩ := hrel
    by_cases hlt : k < l0.length
    · obtain ⟨y, b, off, hy, hyb, rfl, hb, hcell⟩ := (w0.below hB5).sl.at_ hlt
      have HI := Lib.hid (inB_succ (x := x) hy)
      clear hy
      cases hin : inB l0 x k with
      | true =>
        rw [hin] at HI
        clear hin
        go_wp2
        go_round
        case rel => exact ⟨k + 1, by omega, by go_num, by rw [HI.out]; rfl⟩
        case measure => simp [intOf]; omega
      | false =>
        rw [hin] at HI
        clear hin
        by_cases hyx : y = x
        · have hq : ((y : Int) == (x : Int)) = true := by rw [beq_iff_eq]; omega
          have HJ := Lib.hid hyx
          clear hyx
          go_wp2
          go_round
          case rel => exact ⟨k + 1, by omega, by go_num, by rw [HI.out, decide_eq_true HJ.out]; rfl⟩
          case measure => simp [intOf]; omega
        · have hq : ((y : Int) == (x : Int)) = false := beq_eq_false_iff_ne.2 (by omega)
          have HJ := Lib.hid hyx
          clear hyx
          go_wp2
          go_round
          case rel => exact ⟨k + 1, by omega, by go_num, by rw [HI.out, decide_eq_false HJ.out]; rfl⟩
          case measure => simp [intOf]; omega
    · obtain rfl : k = l0.length := by omega
      have HI := Lib.hid (rfl : inB l0 x l0.length = inB l0 x l0.length)
      obtain ⟨t, ht⟩ : ∃ t, t = inB l0 x l0.length := ⟨_, rfl⟩
      rw [← ht]
      rw [← ht] at HZ
      clear ht HI
      go_wp2_with fail
      refine (peval_any _ A1 c1 l1 x hx w5 hF5 ((w1.below hB5).more hB5.size) (by omega)).mono ?_
      rintro e w6 ⟨rfl, hb6⟩
      have hB6 := hB5.trans (hb6.mono hB5.size)
      have hF6 := hF5.below hb6 hF5.lt
      have ho6 := ho5.kept hb6
      clear hb6 hF5 ho5
      go_wp2_with fail
      refine (peval_any _ A2 c2 l2 x hx w6 hF6 ((w2.below hB6).more hB6.size) (by omega)).mono ?_
      rintro e w7 ⟨rfl, hb7⟩
      have hB7 := hB6.trans (hb7.mono hB6.size)
      have hF7 := hF6.below hb7 hF6.lt
      have ho7 := ho6.kept hb7
      clear hb7 hF6 ho6
      go_wp2_with fail
      refine (answers_any _).mono ?_
      rintro e w8 ⟨rfl, hb8⟩
      have hB8 := hB7.trans (hb8.mono hB7.size)
      have hF8 := hF7.below hb8 hF7.lt
      have ho8 := ho7.kept hb8
      clear hb8 hF7 ho7
      have HDG := Lib.hid (degree_any A5 c5 (rt l0) w8 _ ho8.inn (by rw [HRL.out]; omega))
      rw [HRD.out, show ((l0.length + 1 : Nat) : Int) - 1 = (l0.length : Int) by omega] at HDG
      go_wp2_with fail
      refine HDG.out.mono ?_
      rintro e w9 ⟨rfl, rfl⟩
      clear HDG
      go_wp2_with fail
      refine (peval_any _ A5 c5 (rt l0) x hx w8 hF8 ho8.inn (by rw [HRL.out]; omega)).mono ?_
      rintro e w10 ⟨rfl, hb10⟩
      have hB10 := hB8.trans (hb10.mono hB8.size)
      have hF10 := hF8.below hb10 hF8.lt
      have hz := HZ.out
      clear hb10 hF8 ho8
      cases t with
      | true =>
        go_wp2_with fail
        refine (padd_any A1 A2 c1 c2 l1 l2 w10 ((w1.below hB10).more hB10.size) ((w2.below hB10).more hB10.size) (by omega)).mono ?_
        rintro e w11 ⟨A11, c11, rfl, ho11, hb11⟩
        have hB11 := hB10.trans (hb11.mono hB10.size)
        have hF11 := hF10.below hb11 hF10.lt
        have hal : (tr (add l1 l2)).length ≤ 200 := Nat.le_trans (tr_len _) (by rw [add_len]; omega)
        clear hb11 hF10 hz
        have HV := Lib.hid (peval_any _ A11 c11 _ x hx w11 hF11 ho11.inn (by omega))
        rw [HEA.out] at HV
        go_wp2_with fail
        refine HV.out.mono ?_
        rintro e w12 ⟨rfl, hb12⟩
        have hB12 := hB11.trans (hb12.mono hB11.size)
        have hF12 := hF11.below hb12 hF11.lt
        clear hb12 hF11 HV ho11
        go_wp2_with fail
        refine (pmul_any _ A1 A2 c1 c2 l1 l2 w12 hF12 ((w1.below hB12).more hB12.size) ((w2.below hB12).more hB12.size) (by omega)).mono ?_
        rintro e w13 ⟨A13, c13, rfl, ho13, hb13⟩
        have hB13 := hB12.trans (hb13.mono hB12.size)
        have hF13 := hF12.below hb13 hF12.lt
        have hml : (tr (mul l1 l2)).length ≤ 400 := Nat.le_trans (tr_len _) (Nat.le_trans (mul_len _ _) (by omega))
        clear hb13 hF12
        have HV := Lib.hid (peval_any _ A13 c13 _ x hx w13 hF13 ho13.inn (by omega))
        rw [HEM.out] at HV
        go_wp2_with fail
        refine HV.out.mono ?_
        rintro e w14 ⟨rfl, hb14⟩
        have hB14 := hB13.trans (hb14.mono hB13.size)
        have hF14 := hF13.below hb14 hF13.lt
        clear hb14 hF13 HV ho13
        go_wp2_with fail
        refine (mul_any _ (ev x l1) (ev x l2) he1 he2 w14 hF14).mono ?_
        rintro e w15 ⟨rfl, m, rfl⟩
        go_wp2
        go_ret
        exact ⟨rfl, Gw.Below.drewN hB14 m⟩
      | false =>
        go_wp2_with fail
        refine (padd_any A1 A2 c1 c2 l1 l2 w10 ((w1.below hB10).more hB10.size) ((w2.below hB10).more hB10.size) (by omega)).mono ?_
        rintro e w11 ⟨A11, c11, rfl, ho11, hb11⟩
        have hB11 := hB10.trans (hb11.mono hB10.size)
        have hF11 := hF10.below hb11 hF10.lt
        have hal : (tr (add l1 l2)).length ≤ 200 := Nat.le_trans (tr_len _) (by rw [add_len]; omega)
        clear hb11 hF10 hz
        have HV := Lib.hid (peval_any _ A11 c11 _ x hx w11 hF11 ho11.inn (by omega))
        rw [HEA.out] at HV
        go_wp2_with fail
        refine HV.out.mono ?_
        rintro e w12 ⟨rfl, hb12⟩
        have hB12 := hB11.trans (hb12.mono hB11.size)
        have hF12 := hF11.below hb12 hF11.lt
        clear hb12 hF11 HV ho11
        go_wp2_with fail
        refine (pmul_any _ A1 A2 c1 c2 l1 l2 w12 hF12 ((w1.below hB12).more hB12.size) ((w2.below hB12).more hB12.size) (by omega)).mono ?_
        rintro e w13 ⟨A13, c13, rfl, ho13, hb13⟩
        have hB13 := hB12.trans (hb13.mono hB12.size)
        have hF13 := hF12.below hb13 hF12.lt
        have hml : (tr (mul l1 l2)).length ≤ 400 := Nat.le_trans (tr_len _) (Nat.le_trans (mul_len _ _) (by omega))
        clear hb13 hF12
        have HV := Lib.hid (peval_any _ A13 c13 _ x hx w13 hF13 ho13.inn (by omega))
        rw [HEM.out] at HV
        go_wp2_with fail
        refine HV.out.mono ?_
        rintro e w14 ⟨rfl, hb14⟩
        have hB14 := hB13.trans (hb14.mono hB13.size)
        have hF14 := hF13.below hb14 hF13.lt
        clear hb14 hF13 HV ho13
        go_wp2_with fail
        refine (mul_any _ (ev x l1) (ev x l2) he1 he2 w14 hF14).mono ?_
        rintro e w15 ⟨rfl, m, rfl⟩
        go_wp2
        go_ret
        exact ⟨rfl, Gw.Below.drewN hB14 m⟩
theorem walk (A0 : Option Addr) (c0 : Nat) (l0 : List Nat) (A1 : Option Addr) (c1 : Nat) (l1 : List Nat) (A2 : Option Addr) (c2 : Nat) (l2 : List Nat) (a3 : Int) (w : World) (w0 : In w w.heap.size A0 c0 l0) (_s0 : c0 ≤ 140737488351232) (w1 : In w w.heap.size A1 c1 l1) (_s1 : c1 ≤ 140737488351232)
    (w2 : In w w.heap.size A2 c2 l2) (_s2 : c2 ≤ 140737488351232) (w3 : (Lit.int .u8 a3).wf = true) :
    Calls Try.prog 8 #[.slice A0 l0.length c0, .slice A1 l1.length c1, .slice A2 l2.length c2, .int .u8 a3] w fun e w' => e = .returned (.bool true) ∧ Below w.heap.size w w' := by
  obtain ⟨h1, h2⟩ := bounds_u8 w3
  obtain ⟨a, rfl⟩ := Int.eq_ofNat_of_zero_le h1
  cases hsh : shB [l0.length, l1.length, l2.length] with
  | false => exact walk_no A0 c0 l0 A1 c1 l1 A2 c2 l2 a w hsh
  | true => exact walk_yes A0 c0 l0 A1 c1 l1 A2 c2 l2 a (by omega) w w0 w1 w2 hsh

set_option maxRecDepth 100000 in
theorem lifted (os : Os) (started : os.Started) (H : Type) (enc : TypeId × Value → H) :
    ReturnsInHanded {} Try.checked os 8 .any (Rows.polyRootsSpec.pre6 enc Try.prog Try.f8 Rows.polyRootsRow.domain false) (Rows.polyRootsSpec.post enc Try.prog Try.f8 false true false false) := by
  refine returnsInHanded_of_change_sized (C := Try.checked) own started (by kernel_rfl) Try.func8
    (ChangeSpec.witness6 (enc := enc) (C := Try.checked) false ⟨#[], #[.slice none 0 0, .slice none 0 0, .slice none 0 0, .int .u8 0], []⟩ 8 (by kernel_rfl) (by kernel_rfl) (by kernel_rfl) (by kernel_rfl)) ?_
  intro W base args ds gs before hval0 hW _hcnd hsz0 _
  have hval : ∀ (j : Nat) t v, Try.f8.params[j]? = some t → args[j]? = some v → Value.okWide Try.prog W .any base t v := hval0
  have hW' := hW
  obtain ⟨p, q, hA0, hV, rfl, _hfz, _hnd⟩ := hW
  have hA : DataW.TrodAll enc Try.prog W 0 (fun _ => true) true Try.f8.params.toList args.toList ds p := hA0
  have hsz : (DataW.weightsEach Try.prog (Try.f8.params.toList ++ Rows.polyRootsSpec.plain.varTypes Try.prog) (ds ++ gs)).all (· ≤ reachBytes) = true := hsz0
  rw [Try.params8] at hA hval hsz
  obtain ⟨v0, vs0, d0, ds0, p0, q0, hargs, rfl, rfl, h0, r0⟩ := trodAll_cons hA
  obtain ⟨v1, vs1, d1, ds1, p1, q1, rfl, rfl, rfl, h1, r1⟩ := trodAll_cons r0
  obtain ⟨v2, vs2, d2, ds2, p2, q2, rfl, rfl, rfl, h2, r2⟩ := trodAll_cons r1
  obtain ⟨v3, vs3, d3, ds3, p3, q3, rfl, rfl, rfl, h3, r3⟩ := trodAll_cons r2
  obtain ⟨rfl, rfl, rfl⟩ := trodAll_nil r3
  obtain rfl : args = #[v0, v1, v2, v3] := by cases args; simp_all
  obtain ⟨rfl, rfl⟩ := trodVars_none hV
  have k0 := h0
  have lt0 : ∀ x ∈ p0, x.block < W.heap.size := by obtain ⟨m, hm⟩ := k0; exact DataW.trod_lt m _ _ _ hm
  obtain ⟨A0, c0, l0, rfl, w0, sz0⟩ := open_bytes Try.underlying22 Try.underlying5 (by kernel_rfl) (hval 0 22 v0 rfl rfl) h0
  have s0 := sized_bytes hsz (j := 0) (t := 22) (e := 5) rfl rfl Try.underlying22 (by kernel_rfl) sz0
  have k1 := h1
  have lt1 : ∀ x ∈ p1, x.block < W.heap.size := by obtain ⟨m, hm⟩ := k1; exact DataW.trod_lt m _ _ _ hm
  obtain ⟨A1, c1, l1, rfl, w1, sz1⟩ := open_bytes Try.underlying22 Try.underlying5 (by kernel_rfl) (hval 1 22 v1 rfl rfl) h1
  have s1 := sized_bytes hsz (j := 1) (t := 22) (e := 5) rfl rfl Try.underlying22 (by kernel_rfl) sz1
  have k2 := h2
  have lt2 : ∀ x ∈ p2, x.block < W.heap.size := by obtain ⟨m, hm⟩ := k2; exact DataW.trod_lt m _ _ _ hm
  obtain ⟨A2, c2, l2, rfl, w2, sz2⟩ := open_bytes Try.underlying22 Try.underlying5 (by kernel_rfl) (hval 2 22 v2 rfl rfl) h2
  have s2 := sized_bytes hsz (j := 2) (t := 22) (e := 5) rfl rfl Try.underlying22 (by kernel_rfl) sz2
  obtain ⟨a3, rfl, rfl, rfl, w3⟩ := open_int Try.underlying5 (hval 3 5 v3 rfl rfl) h3
  clear hA0 hval0 hsz0 hsz
  refine (walk A0 c0 l0 A1 c1 l1 A2 c2 l2 a3 W w0 s0 w1 s1 w2 s2 w3).mono fun e W' ⟨he, bel⟩ => ?_
  subst he
  exact ⟨_, rfl, _, _, _, [], _, [], hW', trodAll_mk1 (shut_bool Try.underlying4 _), (trodAll_cons_mk (Below.trod laidOut (by kernel_rfl) (of_decide_eq_true (by kernel_rfl)) k0 bel lt0) (trodAll_cons_mk (Below.trod laidOut (by kernel_rfl) (of_decide_eq_true (by kernel_rfl)) k1 bel lt1) (trodAll_cons_mk (Below.trod laidOut (by kernel_rfl) (of_decide_eq_true (by kernel_rfl)) k2 bel lt2) (trodAll_cons_mk (shut_int Try.underlying5 w3) trodAll_mk0)))), rfl, bel.frame _, fun h => by cases h⟩

theorem over : Rows.polyRootsRow.holds Try.pinned (OpenSpec.ofChange Rows.polyRootsSpec) :=
  OpenClaim.holds_of_wide 8 Try.f8 rfl rfl rfl rfl rfl rfl rfl ⟨rfl, rfl, rfl, rfl, rfl⟩ rfl rfl rfl rfl rfl (by kernel_rfl) Try.func8 (by kernel_rfl)
    (of_decide_eq_true (by kernel_rfl)) (by unfold Func.isWrapper; first | (rw [if_pos (by decide +kernel)]; kernel_rfl) | (rw [if_neg (by decide +kernel)]; exact ⟨rfl, rfl⟩))
    (fun os started H enc _ => lifted os started H enc)

end Go.Proofs.Ytiefcfjepcgklaa.polyRoots
namespace Go.Proofs.Ytiefcfjepcgklaa
/-- The statement. -/
theorem polyRoots_holds : Rows.PolyRootsSaid := polyRoots.over
#print axioms polyRoots_holds
end Go.Proofs.Ytiefcfjepcgklaa

