/- For every input PolyAdds returns true, and every argument reads behind the call as it did before: no condition. -/
import Derived.Test.YtiefcfjepcgklaaRows
import Derived.ProofKit
import Derived.OpenShut
import Derived.SizedLaws
import Derived.ChangeOld
import Derived.Carry
import Derived.Test.YtiefcfjepcgklaaLawb
import Derived.Test.YtiefcfjepcgklaaPlw
namespace Go.Proofs.Ytiefcfjepcgklaa.polyAdds
open Go.ChangeShapes Go.WideShapes Go.ChangeAt Go.RowKit Go.Shelf Gw Pol

theorem own : ownKnob Try.prog.godebug = none := by kernel_rfl
theorem laidOut : laidOutB Try.prog = true := by kernel_rfl
set_option maxRecDepth 100000 in
set_option maxHeartbeats 1000000 in
theorem walk (A0 : Option Addr) (c0 : Nat) (l0 : List Nat) (A1 : Option Addr) (c1 : Nat) (l1 : List Nat) (w : World) (w0 : In w w.heap.size A0 c0 l0) (_s0 : c0 ≤ 140737488351232) (w1 : In w w.heap.size A1 c1 l1) (_s1 : c1 ≤ 140737488351232) :
    Calls Try.prog 4 #[.slice A0 l0.length c0, .slice A1 l1.length c1] w fun e w' => e = .returned (.bool true) ∧ Below w.heap.size w w' := by
  have HS := Lib.hid (short_any w.heap.size 2 [l0.length, l1.length] _ (slRow_two w 22 A0 A1 l0.length c0 l1.length c1) (by simp))
  have hBa := (Below.refl w.heap.size w).alloc (Nat.le_refl _) (.cells #[.slice A0 l0.length c0, .slice A1 l1.length c1] 22)
  by_cases hsh : shB [l0.length, l1.length] = true
  · rw [hsh] at HS
    obtain ⟨hl0, hl1⟩ := shB_two hsh
    clear hsh
    go_enter Try.func4, Try.ntmps4
    go_wp2_with fail
    refine HS.out.mono ?_
    rintro e w2 ⟨rfl, rfl⟩
    clear HS
    go_wp2_with fail
    refine (answers_any _).mono ?_
    rintro e w3 ⟨rfl, hB⟩
    have hB3 := hBa.trans (hB.mono hBa.size)
    clear hB hBa
    have p3 := (w0.below hB3).more hB3.size
    have q3 := (w1.below hB3).more hB3.size
    go_wp2_with fail
    refine (padd_any A0 A1 c0 c1 l0 l1 w3 p3 q3 (by omega)).mono ?_
    rintro e w4 ⟨A4, c4, rfl, ho4, hb4⟩
    have hB4 := hB3.trans (hb4.mono hB3.size)
    have p4 := (w0.below hB4).more hB4.size
    have q4 := (w1.below hB4).more hB4.size
    clear hb4 p3 q3
    go_wp2_with fail
    refine (radd_any A0 A1 c0 c1 l0 l1 w4 p4 q4 (by omega)).mono ?_
    rintro e w5 ⟨A5, c5, rfl, ho5, hb5⟩
    have hB5 := hB4.trans (hb5.mono hB4.size)
    have HSM := Lib.hid (same_any A4 A5 c4 c5 _ _ w5 _ _ (ho4.kept hb5).inn ho5.inn)
    rw [decide_eq_true (rfl : tr (add l0 l1) = tr (add l0 l1))] at HSM
    clear hb5 p4 q4 ho4 ho5
    go_wp2_with fail
    refine HSM.out.mono ?_
    rintro e w6 ⟨rfl, rfl⟩
    clear HSM
    go_wp2_with fail
    refine (new_any _).mono ?_
    rintro e w7 ⟨rfl, hF, hb7⟩
    have hB7 := hB5.trans (hb7.mono hB5.size)
    have p7 := (w0.below hB7).more hB7.size
    have q7 := (w1.below hB7).more hB7.size
    clear hb7
    go_wp2_with fail
    refine (pmul_any _ A0 A1 c0 c1 l0 l1 w7 hF p7 q7 (by omega)).mono ?_
    rintro e w8 ⟨A8, c8, rfl, ho8, hb8⟩
    have hB8 := hB7.trans (hb8.mono hB7.size)
    have p8 := (w0.below hB8).more hB8.size
    have q8 := (w1.below hB8).more hB8.size
    clear hb8 p7 q7
    go_wp2_with fail
    refine (rtimes_any A0 A1 c0 c1 l0 l1 w8 p8 q8 (by omega)).mono ?_
    rintro e w9 ⟨A9, c9, rfl, ho9, hb9⟩
    have hB9 := hB8.trans (hb9.mono hB8.size)
    have HSM := Lib.hid (same_any A8 A9 c8 c9 _ _ w9 _ _ (ho8.kept hb9).inn ho9.inn)
    rw [decide_eq_true (rfl : tr (mul l0 l1) = tr (mul l0 l1))] at HSM
    clear hb9 p8 q8 ho8 ho9
    go_wp2_with fail
    refine HSM.out.mono ?_
    rintro e w10 ⟨rfl, rfl⟩
    go_wp2
    go_ret
    exact ⟨rfl, hB9⟩
  · rw [Bool.eq_false_iff.2 hsh] at HS
    clear hsh
    go_enter Try.func4, Try.ntmps4
    go_wp2_with fail
    refine HS.out.mono ?_
    rintro e w2 ⟨rfl, rfl⟩
    clear HS
    go_wp2_with fail
    refine (answers_any _).mono ?_
    rintro e w3 ⟨rfl, hB⟩
    go_wp2
    go_ret
    exact ⟨rfl, hBa.trans (hB.mono hBa.size)⟩

set_option maxRecDepth 100000 in
theorem lifted (os : Os) (started : os.Started) (H : Type) (enc : TypeId × Value → H) :
    ReturnsInHanded {} Try.checked os 4 .any (Rows.polyAddsSpec.pre6 enc Try.prog Try.f4 Rows.polyAddsRow.domain false) (Rows.polyAddsSpec.post enc Try.prog Try.f4 false true false false) := by
  refine returnsInHanded_of_change_sized (C := Try.checked) own started (by kernel_rfl) Try.func4
    (ChangeSpec.witness6 (enc := enc) (C := Try.checked) false ⟨#[], #[.slice none 0 0, .slice none 0 0], []⟩ 8 (by kernel_rfl) (by kernel_rfl) (by kernel_rfl) (by kernel_rfl)) ?_
  intro W base args ds gs before hval0 hW _hcnd hsz0 _
  have hval : ∀ (j : Nat) t v, Try.f4.params[j]? = some t → args[j]? = some v → Value.okWide Try.prog W .any base t v := hval0
  have hW' := hW
  obtain ⟨p, q, hA0, hV, rfl, _hfz, _hnd⟩ := hW
  have hA : DataW.TrodAll enc Try.prog W 0 (fun _ => true) true Try.f4.params.toList args.toList ds p := hA0
  have hsz : (DataW.weightsEach Try.prog (Try.f4.params.toList ++ Rows.polyAddsSpec.plain.varTypes Try.prog) (ds ++ gs)).all (· ≤ reachBytes) = true := hsz0
  rw [Try.params4] at hA hval hsz
  obtain ⟨v0, vs0, d0, ds0, p0, q0, hargs, rfl, rfl, h0, r0⟩ := trodAll_cons hA
  obtain ⟨v1, vs1, d1, ds1, p1, q1, rfl, rfl, rfl, h1, r1⟩ := trodAll_cons r0
  obtain ⟨rfl, rfl, rfl⟩ := trodAll_nil r1
  obtain rfl : args = #[v0, v1] := by cases args; simp_all
  obtain ⟨rfl, rfl⟩ := trodVars_none hV
  have k0 := h0
  have lt0 : ∀ x ∈ p0, x.block < W.heap.size := by obtain ⟨m, hm⟩ := k0; exact DataW.trod_lt m _ _ _ hm
  obtain ⟨A0, c0, l0, rfl, w0, sz0⟩ := open_bytes Try.underlying22 Try.underlying5 (by kernel_rfl) (hval 0 22 v0 rfl rfl) h0
  have s0 := sized_bytes hsz (j := 0) (t := 22) (e := 5) rfl rfl Try.underlying22 (by kernel_rfl) sz0
  have k1 := h1
  have lt1 : ∀ x ∈ p1, x.block < W.heap.size := by obtain ⟨m, hm⟩ := k1; exact DataW.trod_lt m _ _ _ hm
  obtain ⟨A1, c1, l1, rfl, w1, sz1⟩ := open_bytes Try.underlying22 Try.underlying5 (by kernel_rfl) (hval 1 22 v1 rfl rfl) h1
  have s1 := sized_bytes hsz (j := 1) (t := 22) (e := 5) rfl rfl Try.underlying22 (by kernel_rfl) sz1
  clear hA0 hval0 hsz0 hsz
  refine (walk A0 c0 l0 A1 c1 l1 W w0 s0 w1 s1).mono fun e W' ⟨he, bel⟩ => ?_
  subst he
  exact ⟨_, rfl, _, _, _, [], _, [], hW', trodAll_mk1 (shut_bool Try.underlying4 _), (trodAll_cons_mk (Below.trod laidOut (by kernel_rfl) (of_decide_eq_true (by kernel_rfl)) k0 bel lt0) (trodAll_cons_mk (Below.trod laidOut (by kernel_rfl) (of_decide_eq_true (by kernel_rfl)) k1 bel lt1) trodAll_mk0)), rfl, bel.frame _, fun h => by cases h⟩

theorem over : Rows.polyAddsRow.holds Try.pinned (OpenSpec.ofChange Rows.polyAddsSpec) :=
  OpenClaim.holds_of_wide 4 Try.f4 rfl rfl rfl rfl rfl rfl rfl ⟨rfl, rfl, rfl, rfl, rfl⟩ rfl rfl rfl rfl rfl (by kernel_rfl) Try.func4 (by kernel_rfl)
    (of_decide_eq_true (by kernel_rfl)) (by unfold Func.isWrapper; first | (rw [if_pos (by decide +kernel)]; kernel_rfl) | (rw [if_neg (by decide +kernel)]; exact ⟨rfl, rfl⟩))
    (fun os started H enc _ => lifted os started H enc)

end Go.Proofs.Ytiefcfjepcgklaa.polyAdds
namespace Go.Proofs.Ytiefcfjepcgklaa
/-- The statement. -/
theorem polyAdds_holds : Rows.PolyAddsSaid := polyAdds.over
#print axioms polyAdds_holds
end Go.Proofs.Ytiefcfjepcgklaa

