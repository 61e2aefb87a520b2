/- For every input PolyDivs returns true, and every argument reads behind the call as it did before: no condition. -/
import Derived.Test.YtiefcfjepcgklaaRows
import Derived.ProofKit
import Derived.OpenShut
import Derived.SizedLaws
import Derived.ChangeOld
import Derived.Carry
import Derived.Test.YtiefcfjepcgklaaLawb
import Derived.Test.YtiefcfjepcgklaaPlw
namespace Go.Proofs.Ytiefcfjepcgklaa.polyDivs
open Go.ChangeShapes Go.WideShapes Go.ChangeAt Go.RowKit Go.Shelf Gw Pol

theorem own : ownKnob Try.prog.godebug = none := by kernel_rfl
theorem laidOut : laidOutB Try.prog = true := by kernel_rfl
theorem div_back {p d q r : List Nat} (h : DivOf p d q r) : tr (add (tr (mul q d)) r) = tr p := tr_ext fun k => by rw [co_add, co_tr, h.eq k]
set_option maxRecDepth 100000 in
set_option maxHeartbeats 1000000 in
theorem walk (A0 : Option Addr) (c0 : Nat) (l0 : List Nat) (A1 : Option Addr) (c1 : Nat) (l1 : List Nat) (w : World) (w0 : In w w.heap.size A0 c0 l0) (_s0 : c0 ≤ 140737488351232) (w1 : In w w.heap.size A1 c1 l1) (_s1 : c1 ≤ 140737488351232) :
    Calls Try.prog 5 #[.slice A0 l0.length c0, .slice A1 l1.length c1] w fun e w' => e = .returned (.bool true) ∧ Below w.heap.size w w' := by
  have HS := Lib.hid (short_any w.heap.size 2 [l0.length, l1.length] _ (slRow_two w 22 A0 A1 l0.length c0 l1.length c1) (by simp))
  have hBa := (Below.refl w.heap.size w).alloc (Nat.le_refl _) (.cells #[.slice A0 l0.length c0, .slice A1 l1.length c1] 22)
  by_cases hsh : shB [l0.length, l1.length] = true
  · rw [hsh] at HS
    obtain ⟨hl0, hl1⟩ := shB_two hsh
    clear hsh
    go_enter Try.func5, Try.ntmps5
    go_wp2_with fail
    refine HS.out.mono ?_
    rintro e w2 ⟨rfl, rfl⟩
    clear HS
    go_wp2_with fail
    refine (new_any _).mono ?_
    rintro e w3 ⟨rfl, hF, hB⟩
    have hB3 := hBa.trans (hB.mono hBa.size)
    rw [World.size_alloc] at hF
    clear hB hBa
    have p3 := (w0.below hB3).more hB3.size
    have q3 := (w1.below hB3).more hB3.size
    by_cases hz : tr l1 = []
    · go_wp2_with fail
      refine (pdiv_none _ A0 A1 c0 c1 l0 l1 w3 q3 hz (by omega)).mono ?_
      rintro e w4 ⟨rfl, rfl⟩
      have HT := Lib.hid (trim_any A1 c1 l1 w3 _ q3 (Nat.le_refl _) (by omega))
      rw [hz] at HT
      clear hz p3 q3
      go_wp2_with fail
      refine HT.out.mono ?_
      rintro e w5 ⟨A5, c5, rfl, _, hb5⟩
      have hB5 := hB3.trans (hb5.mono hB3.size)
      clear hb5 HT
      go_wp2_with fail
      refine (answers_any _).mono ?_
      rintro e w6 ⟨rfl, hb6⟩
      go_wp2
      go_ret
      exact ⟨rfl, hB5.trans (hb6.mono hB5.size)⟩
    · obtain ⟨n, hn⟩ : ∃ n, n = (tr l1).length := ⟨_, rfl⟩
      have hn0 : 0 < n := by rw [hn]; exact List.length_pos_iff.2 hz
      have hn1 : ((n : Int) == 0) = false := beq_eq_false_iff_ne.2 (by omega)
      have HN := Lib.hid hn
      clear hn
      go_wp2_with fail
      refine (pdiv_any _ A0 A1 c0 c1 l0 l1 w3 hF p3 q3 hz (by omega) (by omega)).mono ?_
      rintro e w4 ⟨q, r, Aq, Ar, cq, cr, rfl, hdiv, hoq, hor, _, hb4⟩
      have hB4 := hB3.trans (hb4.mono hB3.size)
      have hlr := hdiv.lr
      rw [← HN.out] at hlr
      have hlq := hdiv.lq
      have hnl : n ≤ l1.length := by rw [HN.out]; exact tr_len l1
      have HDV := Lib.hid hdiv
      clear hb4 p3 q3 hdiv hz
      have HT := Lib.hid (trim_any A1 c1 l1 w4 _ (w1.below hB4) hB4.size (by omega))
      rw [← HN.out] at HT
      go_wp2_with fail
      refine HT.out.mono ?_
      rintro e w5 ⟨A5, c5, rfl, _, hb5⟩
      have hB5 := hB4.trans (hb5.mono hB4.size)
      have hoq5 := hoq.kept hb5
      have hor5 := hor.kept hb5
      clear hb5 HT hoq hor
      go_wp2_with fail
      refine (answers_any _).mono ?_
      rintro e w6 ⟨rfl, hb6⟩
      have hB6 := hB5.trans (hb6.mono hB5.size)
      have hoq6 := hoq5.kept hb6
      have hor6 := hor5.kept hb6
      clear hb6 hoq5 hor5
      have HT := Lib.hid (trim_any A1 c1 l1 w6 _ (w1.below hB6) hB6.size (by omega))
      rw [← HN.out] at HT
      go_wp2_with fail
      refine HT.out.mono ?_
      rintro e w7 ⟨A7, c7, rfl, _, hb7⟩
      have hB7 := hB6.trans (hb7.mono hB6.size)
      have hoq7 := hoq6.kept hb7
      have hor7 := hor6.kept hb7
      clear hb7 HT hoq6 hor6
      go_wp2_with fail
      refine (rtimes_any Aq A1 cq c1 q l1 w7 hoq7.inn ((w1.below hB7).more hB7.size) (by omega)).mono ?_
      rintro e w8 ⟨A8, c8, rfl, ho8, hb8⟩
      have hB8 := hB7.trans (hb8.mono hB7.size)
      have hoq8 := hoq7.kept hb8
      have hor8 := hor7.kept hb8
      have hml : (tr (mul q l1)).length ≤ 1000 := Nat.le_trans (tr_len _) (Nat.le_trans (mul_len q l1) (by omega))
      clear hb8 hoq7 hor7
      go_wp2_with fail
      refine (radd_any A8 Ar c8 cr _ r w8 ho8.inn hor8.inn (by omega)).mono ?_
      rintro e w9 ⟨A9, c9, rfl, ho9, hb9⟩
      have hB9 := hB8.trans (hb9.mono hB8.size)
      have hoq9 := hoq8.kept hb9
      have hor9 := hor8.kept hb9
      clear hb9 hoq8 hor8 ho8
      go_wp2_with fail
      refine (trim_any A0 c0 l0 w9 _ (w0.below hB9) hB9.size (by omega)).mono ?_
      rintro e w10 ⟨A10, c10, rfl, ho10, hb10⟩
      have hB10 := hB9.trans (hb10.mono hB9.size)
      have hoq10 := hoq9.kept hb10
      have hor10 := hor9.kept hb10
      have HSM := Lib.hid (same_any A9 A10 c9 c10 _ _ w10 _ _ (ho9.kept hb10).inn ho10.inn)
      rw [decide_eq_true (div_back HDV.out)] at HSM
      clear hb10 hoq9 hor9 ho9 ho10
      go_wp2_with fail
      refine HSM.out.mono ?_
      rintro e w11 ⟨rfl, rfl⟩
      clear HSM
      go_wp2_with fail
      refine (trim_any Aq cq q w10 _ hoq10.inn (Nat.le_refl _) (by omega)).mono ?_
      rintro e w12 ⟨A12, c12, rfl, ho12, hb12⟩
      have hB12 := hB10.trans (hb12.mono hB10.size)
      have hor12 := hor10.kept hb12
      have HSM := Lib.hid (same_any Aq A12 cq c12 _ _ w12 _ _ (hoq10.kept hb12).inn ho12.inn)
      rw [decide_eq_true HDV.out.tq.symm] at HSM
      clear hb12 hor10 hoq10 ho12
      go_wp2_with fail
      refine HSM.out.mono ?_
      rintro e w13 ⟨rfl, rfl⟩
      clear HSM
      go_wp2_with fail
      refine (trim_any Ar cr r w12 _ hor12.inn (Nat.le_refl _) (by omega)).mono ?_
      rintro e w14 ⟨A14, c14, rfl, ho14, hb14⟩
      have hB14 := hB12.trans (hb14.mono hB12.size)
      have HSM := Lib.hid (same_any Ar A14 cr c14 _ _ w14 _ _ (hor12.kept hb14).inn ho14.inn)
      rw [decide_eq_true HDV.out.tr_.symm] at HSM
      clear hb14 hor12 ho14
      go_wp2_with fail
      refine HSM.out.mono ?_
      rintro e w15 ⟨rfl, rfl⟩
      go_wp2
      go_ret
      exact ⟨rfl, hB14⟩
  · rw [Bool.eq_false_iff.2 hsh] at HS
    clear hsh
    go_enter Try.func5, Try.ntmps5
    go_wp2_with fail
    refine HS.out.mono ?_
    rintro e w2 ⟨rfl, rfl⟩
    clear HS
    go_wp2_with fail
    refine (answers_any _).mono ?_
    rintro e w3 ⟨rfl, hB⟩
    go_wp2
    go_ret
    exact ⟨rfl, hBa.trans (hB.mono hBa.size)⟩

set_option maxRecDepth 100000 in
theorem lifted (os : Os) (started : os.Started) (H : Type) (enc : TypeId × Value → H) :
    ReturnsInHanded {} Try.checked os 5 .any (Rows.polyDivsSpec.pre6 enc Try.prog Try.f5 Rows.polyDivsRow.domain false) (Rows.polyDivsSpec.post enc Try.prog Try.f5 false true false false) := by
  refine returnsInHanded_of_change_sized (C := Try.checked) own started (by kernel_rfl) Try.func5
    (ChangeSpec.witness6 (enc := enc) (C := Try.checked) false ⟨#[], #[.slice none 0 0, .slice none 0 0], []⟩ 8 (by kernel_rfl) (by kernel_rfl) (by kernel_rfl) (by kernel_rfl)) ?_
  intro W base args ds gs before hval0 hW _hcnd hsz0 _
  have hval : ∀ (j : Nat) t v, Try.f5.params[j]? = some t → args[j]? = some v → Value.okWide Try.prog W .any base t v := hval0
  have hW' := hW
  obtain ⟨p, q, hA0, hV, rfl, _hfz, _hnd⟩ := hW
  have hA : DataW.TrodAll enc Try.prog W 0 (fun _ => true) true Try.f5.params.toList args.toList ds p := hA0
  have hsz : (DataW.weightsEach Try.prog (Try.f5.params.toList ++ Rows.polyDivsSpec.plain.varTypes Try.prog) (ds ++ gs)).all (· ≤ reachBytes) = true := hsz0
  rw [Try.params5] at hA hval hsz
  obtain ⟨v0, vs0, d0, ds0, p0, q0, hargs, rfl, rfl, h0, r0⟩ := trodAll_cons hA
  obtain ⟨v1, vs1, d1, ds1, p1, q1, rfl, rfl, rfl, h1, r1⟩ := trodAll_cons r0
  obtain ⟨rfl, rfl, rfl⟩ := trodAll_nil r1
  obtain rfl : args = #[v0, v1] := by cases args; simp_all
  obtain ⟨rfl, rfl⟩ := trodVars_none hV
  have k0 := h0
  have lt0 : ∀ x ∈ p0, x.block < W.heap.size := by obtain ⟨m, hm⟩ := k0; exact DataW.trod_lt m _ _ _ hm
  obtain ⟨A0, c0, l0, rfl, w0, sz0⟩ := open_bytes Try.underlying22 Try.underlying5 (by kernel_rfl) (hval 0 22 v0 rfl rfl) h0
  have s0 := sized_bytes hsz (j := 0) (t := 22) (e := 5) rfl rfl Try.underlying22 (by kernel_rfl) sz0
  have k1 := h1
  have lt1 : ∀ x ∈ p1, x.block < W.heap.size := by obtain ⟨m, hm⟩ := k1; exact DataW.trod_lt m _ _ _ hm
  obtain ⟨A1, c1, l1, rfl, w1, sz1⟩ := open_bytes Try.underlying22 Try.underlying5 (by kernel_rfl) (hval 1 22 v1 rfl rfl) h1
  have s1 := sized_bytes hsz (j := 1) (t := 22) (e := 5) rfl rfl Try.underlying22 (by kernel_rfl) sz1
  clear hA0 hval0 hsz0 hsz
  refine (walk A0 c0 l0 A1 c1 l1 W w0 s0 w1 s1).mono fun e W' ⟨he, bel⟩ => ?_
  subst he
  exact ⟨_, rfl, _, _, _, [], _, [], hW', trodAll_mk1 (shut_bool Try.underlying4 _), (trodAll_cons_mk (Below.trod laidOut (by kernel_rfl) (of_decide_eq_true (by kernel_rfl)) k0 bel lt0) (trodAll_cons_mk (Below.trod laidOut (by kernel_rfl) (of_decide_eq_true (by kernel_rfl)) k1 bel lt1) trodAll_mk0)), rfl, bel.frame _, fun h => by cases h⟩

theorem over : Rows.polyDivsRow.holds Try.pinned (OpenSpec.ofChange Rows.polyDivsSpec) :=
  OpenClaim.holds_of_wide 5 Try.f5 rfl rfl rfl rfl rfl rfl rfl ⟨rfl, rfl, rfl, rfl, rfl⟩ rfl rfl rfl rfl rfl (by kernel_rfl) Try.func5 (by kernel_rfl)
    (of_decide_eq_true (by kernel_rfl)) (by unfold Func.isWrapper; first | (rw [if_pos (by decide +kernel)]; kernel_rfl) | (rw [if_neg (by decide +kernel)]; exact ⟨rfl, rfl⟩))
    (fun os started H enc _ => lifted os started H enc)

end Go.Proofs.Ytiefcfjepcgklaa.polyDivs
namespace Go.Proofs.Ytiefcfjepcgklaa
/-- The statement. -/
theorem polyDivs_holds : Rows.PolyDivsSaid := polyDivs.over
#print axioms polyDivs_holds
end Go.Proofs.Ytiefcfjepcgklaa

