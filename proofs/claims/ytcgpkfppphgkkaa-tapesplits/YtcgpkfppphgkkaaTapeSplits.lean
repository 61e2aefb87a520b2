/- For every input TapeSplits returns true, and every argument reads behind the call as it did before: no condition. -/
import Derived.Test.YtcgpkfppphgkkaaRows
import Derived.ProofKit
import Derived.OpenShut
import Derived.SizedLaws
import Derived.ChangeOld
import Derived.Carry
import Derived.Test.YtcgpkfppphgkkaaLawb
import Derived.Test.YtcgpkfppphgkkaaTpd
namespace Go.Proofs.Ytcgpkfppphgkkaa.tapeSplits
open Go.ChangeShapes Go.WideShapes Go.ChangeAt Go.RowKit Go.Shelf Gw Pol

theorem own : ownKnob Try.prog.godebug = none := by kernel_rfl
theorem laidOut : laidOutB Try.prog = true := by kernel_rfl
set_option maxRecDepth 100000 in
set_option maxHeartbeats 4000000 in
theorem walk (A0 : Option Addr) (c0 : Nat) (l0 : List Nat) (a1 a2 : Int) (w : World) (w0 : In w w.heap.size A0 c0 l0) (_s0 : c0 ≤ 140737488351232) (w1 : (Lit.int .u8 a1).wf = true) (w2 : (Lit.int .u8 a2).wf = true) :
    Calls Try.prog 6 #[.slice A0 l0.length c0, .int .u8 a1, .int .u8 a2] w fun e w' => e = .returned (.bool true) ∧ Below w.heap.size w w' := by
  have hb1 := bounds_u8 w1
  have hb2 := bounds_u8 w2
  obtain ⟨n, rfl⟩ : ∃ n : Nat, a1 = n := ⟨a1.toNat, by omega⟩
  obtain ⟨m, rfl⟩ : ∃ m : Nat, a2 = m := ⟨a2.toNat, by omega⟩
  clear w1 w2
  obtain ⟨N, hN⟩ : ∃ N, N = l0.length := ⟨_, rfl⟩
  obtain ⟨k, hk⟩ : ∃ k, k = n + m := ⟨_, rfl⟩
  have hwn : IntKind.i64.wrap (n : Int) = (n : Int) := by rw [IntKind.wrap_i64]; omega
  have hwm : IntKind.i64.wrap (m : Int) = (m : Int) := by rw [IntKind.wrap_i64]; omega
  have hwk : IntKind.i64.wrap ((n : Int) + (m : Int)) = (k : Int) := by rw [IntKind.wrap_i64]; omega
  rw [← hN]
  by_cases hl : 1000 < N
  · have HN := Lib.hid hN
    clear hN hk
    go_enter Try.func6, Try.ntmps6
    go_wp2_with fail
    refine (answers_any w).mono ?_
    rintro e w2 ⟨rfl, hb⟩
    go_wp2
    go_ret
    exact ⟨rfl, hb⟩
  by_cases hs : N < k
  · have HN := Lib.hid hN
    clear hN hk
    go_enter Try.func6, Try.ntmps6
    go_wp2_with fail
    refine (answers_any w).mono ?_
    rintro e w2 ⟨rfl, hb⟩
    go_wp2
    go_ret
    exact ⟨rfl, hb⟩
  obtain ⟨x, hx⟩ : ∃ x, x = l0.take n := ⟨_, rfl⟩
  obtain ⟨r, hr⟩ : ∃ r, r = l0.drop n := ⟨_, rfl⟩
  obtain ⟨y, hy⟩ : ∃ y, y = r.take m := ⟨_, rfl⟩
  obtain ⟨q, hq⟩ : ∃ q, q = r.drop m := ⟨_, rfl⟩
  have hz : x ++ y = l0.take k := by rw [hx, hy, hr, hk, List.take_add]
  have hq2 : q = l0.drop k := by rw [hq, hr, hk, List.drop_drop]
  have hxl : n = x.length := by rw [hx, List.length_take]; omega
  have hrl : m ≤ r.length := by rw [hr, List.length_drop]; omega
  have hyl : m = y.length := by rw [hy, List.length_take]; omega
  have hkl : k = (x ++ y).length := by rw [List.length_append]; omega
  have HX := Lib.hid hx
  have HR := Lib.hid hr
  have HY := Lib.hid hy
  have HQ := Lib.hid hq
  have HZ := Lib.hid hz
  have HQ2 := Lib.hid hq2
  have HXL := Lib.hid hxl
  have HRL := Lib.hid hrl
  have HYL := Lib.hid hyl
  have HKL := Lib.hid hkl
  have HN := Lib.hid hN
  have HK := Lib.hid hk
  clear hx hr hy hq hz hq2 hxl hrl hyl hkl hN hk
  go_enter Try.func6, Try.ntmps6
  go_wp2_with fail
  refine (tnew' w).mono ?_
  rintro e w1 ⟨rfl, hs1, hb1', hz1⟩
  go_wp2_with fail
  refine (tnew' w1).mono ?_
  rintro e w2 ⟨rfl, ht2, hb2', hz2⟩
  have hs2 := hs1.below hb2' (Nat.le_refl _)
  have hB2 := hb1'.trans (hb2'.mono hb1'.size)
  clear hs1 hb1' hb2'
  go_wp2_with fail
  refine (tadd' w.heap.size w.heap.size 0 A0 N c0 l0 w2 hs2 HN.out ((w0.below hB2).more hB2.size) (by rw [← HN.out]; omega)).mono ?_
  rintro e w3 ⟨rfl, gs, hs3, hgs, hk3⟩
  have hz3 := hk3.size
  have ht3 := ht2.k2 hk3 (by omega) (by omega) (by omega) (by omega)
  have hB3 := hB2.trans (hk3.below (by omega) (Nat.le_refl _) (Nat.le_refl _))
  have hgs3 := hs3.glt
  clear hs2 ht2 hB2 hk3
  go_wp2_with fail
  refine (tadd' w1.heap.size w1.heap.size 0 A0 N c0 l0 w3 ht3 HN.out ((w0.below hB3).more hB3.size) (by rw [← HN.out]; omega)).mono ?_
  rintro e w4 ⟨rfl, gt, ht4, hgt, hk4⟩
  have hz4 := hk4.size
  have hs4 := hs3.k2 hk4 (by omega) (by omega) (by omega) (by omega)
  have hB4 := hB3.trans (hk4.below (by omega) (by omega) (by omega))
  have hgt4 := ht4.glt
  clear hs3 ht3 hB3 hk4
  go_wp2_with fail
  refine (ttake' w.heap.size gs 0 n n l0 x r w4 hs4 (by rw [← HN.out]; have := HK.out; omega) (by omega) HX.out HR.out (by omega)).mono ?_
  rintro e w5 ⟨Ax, cx, rfl, hx5, hs5, hk5⟩
  have hz5 := hk5.size
  have ht5 := ht4.k2 hk5 (by omega) (by omega) (by omega) (by omega)
  have hB5 := hB4.trans (hk5.below (by omega) (by omega) (by omega))
  clear hs4 ht4 hB4 hk5
  go_wp2_with fail
  refine (ttake' w.heap.size gs n m k r y q w5 hs5 HRL.out (by omega) HY.out HQ.out HK.out).mono ?_
  rintro e w6 ⟨Ay, cy, rfl, hy6, hs6, hk6⟩
  have hz6 := hk6.size
  have ht6 := ht5.k2 hk6 (by omega) (by omega) (by omega) (by omega)
  have hx6 := hx5.k2 hk6 (hx5.nb (by omega)) (hx5.nb (by omega))
  have hB6 := hB5.trans (hk6.below (by omega) (by omega) (by omega))
  clear hs5 ht5 hB5 hk6 hx5
  go_wp2_with fail
  refine (ttake' w1.heap.size gt 0 k k l0 (x ++ y) q w6 ht6 (by rw [← HN.out]; omega) (by omega) HZ.out HQ2.out (by omega)).mono ?_
  rintro e w7 ⟨Az, cz, rfl, hz7', ht7, hk7⟩
  have hz7 := hk7.size
  have hs7 := hs6.k2 hk7 (by omega) (by omega) (by omega) (by omega)
  have hx7 := hx6.k2 hk7 (hx6.nb (by omega)) (hx6.nb (by omega))
  have hy7 := hy6.k2 hk7 (hy6.nb (by omega)) (hy6.nb (by omega))
  have hB7 := hB6.trans (hk7.below (by omega) (by omega) (by omega))
  clear hs6 ht6 hB6 hk7 hx6 hy6
  go_wp2_with fail
  refine (answers_any w7).mono ?_
  rintro e w8 ⟨rfl, hb8⟩
  have hz8 := hb8.size
  have hcx := conv_n (hx7.kept hb8) HXL.out
  have hcy := conv_n (hy7.kept hb8) HYL.out
  have hcz := conv_n (hz7'.kept hb8) HKL.out
  rw [str_app] at hcz
  have hsx : (str x).size = n := (str_size x).trans HXL.out.symm
  have hsy : (str y).size = m := (str_size y).trans HYL.out.symm
  have hs8 := hs7.below hb8 (Nat.le_refl _)
  have ht8 := ht7.below hb8 (Nat.le_refl _)
  have hB8 := hB7.trans (hb8.mono (by omega))
  clear hs7 ht7 hB7 hb8 hx7 hy7 hz7'
  go_wp2_with fail
  refine (tleft_any w.heap.size gs k q w8 hs8).mono ?_
  rintro e w9 ⟨rfl, rfl⟩
  go_wp2_with fail
  refine (tleft_any w1.heap.size gt k q w9 ht8).mono ?_
  rintro e w10 ⟨rfl, rfl⟩
  go_wp2_with fail
  refine (tused_any w.heap.size gs k q w10 hs8).mono ?_
  rintro e w11 ⟨rfl, rfl⟩
  go_wp2_with fail
  refine (tused_any w1.heap.size gt k q w11 ht8).mono ?_
  rintro e w12 ⟨rfl, rfl⟩
  go_wp2
  go_ret
  exact ⟨rfl, hB8⟩

set_option maxRecDepth 100000 in
theorem lifted (os : Os) (started : os.Started) (H : Type) (enc : TypeId × Value → H) :
    ReturnsInHanded {} Try.checked os 6 .any (Rows.tapeSplitsSpec.pre6 enc Try.prog Try.f6 Rows.tapeSplitsRow.domain false) (Rows.tapeSplitsSpec.post enc Try.prog Try.f6 false true false false) := by
  refine returnsInHanded_of_change_sized (C := Try.checked) own started (by kernel_rfl) Try.func6
    (ChangeSpec.witness6 (enc := enc) (C := Try.checked) false ⟨#[], #[.slice none 0 0, .int .u8 0, .int .u8 0], []⟩ 8 (by kernel_rfl) (by kernel_rfl) (by kernel_rfl) (by kernel_rfl)) ?_
  intro W base args ds gs before hval0 hW _hcnd hsz0 _
  have hval : ∀ (j : Nat) t v, Try.f6.params[j]? = some t → args[j]? = some v → Value.okWide Try.prog W .any base t v := hval0
  have hW' := hW
  obtain ⟨p, q, hA0, hV, rfl, _hfz, _hnd⟩ := hW
  have hA : DataW.TrodAll enc Try.prog W 0 (fun _ => true) true Try.f6.params.toList args.toList ds p := hA0
  have hsz : (DataW.weightsEach Try.prog (Try.f6.params.toList ++ Rows.tapeSplitsSpec.plain.varTypes Try.prog) (ds ++ gs)).all (· ≤ reachBytes) = true := hsz0
  rw [Try.params6] at hA hval hsz
  obtain ⟨v0, vs0, d0, ds0, p0, q0, hargs, rfl, rfl, h0, r0⟩ := trodAll_cons hA
  obtain ⟨v1, vs1, d1, ds1, p1, q1, rfl, rfl, rfl, h1, r1⟩ := trodAll_cons r0
  obtain ⟨v2, vs2, d2, ds2, p2, q2, rfl, rfl, rfl, h2, r2⟩ := trodAll_cons r1
  obtain ⟨rfl, rfl, rfl⟩ := trodAll_nil r2
  obtain rfl : args = #[v0, v1, v2] := by cases args; simp_all
  obtain ⟨rfl, rfl⟩ := trodVars_none hV
  have k0 := h0
  have lt0 : ∀ x ∈ p0, x.block < W.heap.size := by obtain ⟨m, hm⟩ := k0; exact DataW.trod_lt m _ _ _ hm
  obtain ⟨A0, c0, l0, rfl, w0, sz0⟩ := open_bytes Try.underlying25 Try.underlying5 (by kernel_rfl) (hval 0 25 v0 rfl rfl) h0
  have s0 := sized_bytes hsz (j := 0) (t := 25) (e := 5) rfl rfl Try.underlying25 (by kernel_rfl) sz0
  obtain ⟨a1, rfl, rfl, rfl, w1⟩ := open_int Try.underlying5 (hval 1 5 v1 rfl rfl) h1
  obtain ⟨a2, rfl, rfl, rfl, w2⟩ := open_int Try.underlying5 (hval 2 5 v2 rfl rfl) h2
  clear hA0 hval0 hsz0 hsz
  refine (walk A0 c0 l0 a1 a2 W w0 s0 w1 w2).mono fun e W' ⟨he, bel⟩ => ?_
  subst he
  exact ⟨_, rfl, _, _, _, [], _, [], hW', trodAll_mk1 (shut_bool Try.underlying4 _), (trodAll_cons_mk (Below.trod laidOut (by kernel_rfl) (of_decide_eq_true (by kernel_rfl)) k0 bel lt0) (trodAll_cons_mk (shut_int Try.underlying5 w1) (trodAll_cons_mk (shut_int Try.underlying5 w2) trodAll_mk0))), rfl, bel.frame _, fun h => by cases h⟩

theorem over : Rows.tapeSplitsRow.holds Try.pinned (OpenSpec.ofChange Rows.tapeSplitsSpec) :=
  OpenClaim.holds_of_wide 6 Try.f6 rfl rfl rfl rfl rfl rfl rfl ⟨rfl, rfl, rfl, rfl, rfl⟩ rfl rfl rfl rfl rfl (by kernel_rfl) Try.func6 (by kernel_rfl)
    (of_decide_eq_true (by kernel_rfl)) (by unfold Func.isWrapper; first | (rw [if_pos (by decide +kernel)]; kernel_rfl) | (rw [if_neg (by decide +kernel)]; exact ⟨rfl, rfl⟩))
    (fun os started H enc _ => lifted os started H enc)

end Go.Proofs.Ytcgpkfppphgkkaa.tapeSplits
namespace Go.Proofs.Ytcgpkfppphgkkaa
/-- The statement. -/
theorem tapeSplits_holds : Rows.TapeSplitsSaid := tapeSplits.over
#print axioms tapeSplits_holds
end Go.Proofs.Ytcgpkfppphgkkaa

