/- For every input PolyOwn returns true, and every argument reads behind the call as it did before: no condition. -/
import Derived.Test.YtiefcfjepcgklaaRows
import Derived.ProofKit
import Derived.OpenShut
import Derived.SizedLaws
import Derived.ChangeOld
import Derived.Carry
import Derived.Test.YtiefcfjepcgklaaLawb
import Derived.Test.YtiefcfjepcgklaaPlw
namespace Go.Proofs.Ytiefcfjepcgklaa.polyOwn
open Go.ChangeShapes Go.WideShapes Go.ChangeAt Go.RowKit Go.Shelf Gw Pol

theorem own : ownKnob Try.prog.godebug = none := by kernel_rfl
theorem laidOut : laidOutB Try.prog = true := by kernel_rfl
theorem div_all (bf : Nat) (A A' : Option Addr) (c c' : Nat) (p d : List Nat) (w : World) (hF : IsField w bf) (hp : In w w.heap.size A c p) (hd : In w w.heap.size A' c' d) (hcm : p.length ≤ 200) (hcm2 : d.length ≤ 200) :
    Calls Try.prog 21 #[.pointer (some ⟨bf, 0, none⟩), .slice A p.length c, .slice A' d.length c'] w fun e w' =>
      ∃ (q r : List Nat) (Aq Ar : Option Addr) (cq cr : Nat) (ok : Bool), e = .returned (.tuple #[.slice Aq q.length cq, .slice Ar r.length cr, .bool ok]) ∧ q.length ≤ 200 ∧ r.length ≤ 200 ∧
        Gw.Own w' w.heap.size 5 Aq cq q ∧ Gw.Own w' w.heap.size 5 Ar cr r ∧ (∀ k, blk Aq = some k → blk Ar ≠ some k) ∧ Below w.heap.size w w' := by
  by_cases hz : tr d = []
  · refine (pdiv_none bf A A' c c' p d w hd hz (by omega)).mono ?_
    rintro e w' ⟨rfl, rfl⟩
    exact ⟨[], [], none, none, 0, 0, false, rfl, by simp, by simp, Own.none_ _ _ _, Own.none_ _ _ _, fun k h => (by cases h), Below.refl _ _⟩
  · refine (pdiv_any bf A A' c c' p d w hF hp hd hz (by omega) (by omega)).mono ?_
    rintro e w' ⟨q, r, Aq, Ar, cq, cr, rfl, hdiv, hoq, hor, hap, hb⟩
    refine ⟨q, r, Aq, Ar, cq, cr, true, rfl, by have := hdiv.lq; omega, by have := hdiv.lr; have := tr_len d; omega, hoq, hor, fun k h1 h2 => ?_, hb⟩
    rcases hoq.1.2 with ⟨hv, _⟩ | ⟨k1, _, _, hv, _⟩
    · injection hv with hv; subst hv; cases h1
    · rcases hor.1.2 with ⟨hv2, _⟩ | ⟨k2, _, _, hv2, _⟩
      · injection hv2 with hv2; subst hv2; cases h2
      · injection hv with hv
        injection hv2 with hv2
        subst hv hv2
        injection h1 with h1
        injection h2 with h2
        exact hap k1 0 0 rfl (by show some _ = some _; congr 2; exact h2.trans h1.symm)
set_option maxRecDepth 100000 in
set_option maxHeartbeats 1000000 in
theorem walk (A0 : Option Addr) (c0 : Nat) (l0 : List Nat) (A1 : Option Addr) (c1 : Nat) (l1 : List Nat) (w : World) (w0 : In w w.heap.size A0 c0 l0) (_s0 : c0 ≤ 140737488351232) (w1 : In w w.heap.size A1 c1 l1) (_s1 : c1 ≤ 140737488351232) :
    Calls Try.prog 7 #[.slice A0 l0.length c0, .slice A1 l1.length c1] w fun e w' => e = .returned (.bool true) ∧ Below w.heap.size w w' := by
  have HS := Lib.hid (short_any w.heap.size 2 [l0.length, l1.length] _ (slRow_two w 22 A0 A1 l0.length c0 l1.length c1) (by simp))
  have hBa := (Below.refl w.heap.size w).alloc (Nat.le_refl _) (.cells #[.slice A0 l0.length c0, .slice A1 l1.length c1] 22)
  obtain ⟨i0, hi0, hz0, hz1, hz2⟩ := info_parts pbyte_info
  by_cases hsh : shB [l0.length, l1.length] = true
  · rw [hsh] at HS
    obtain ⟨hl0, hl1⟩ := shB_two hsh
    clear hsh
    go_enter Try.func7, Try.ntmps7
    go_wp2_with fail
    refine HS.out.mono ?_
    rintro e w2 ⟨rfl, rfl⟩
    clear HS
    go_wp2_with fail
    refine (new_any _).mono ?_
    rintro e w3 ⟨rfl, hF, hB⟩
    have hB3 := hBa.trans (hB.mono hBa.size)
    rw [World.size_alloc] at hF
    clear hB hBa
    have hlf := hF.lt
    have p3 := (w0.below hB3).more hB3.size
    have q3 := (w1.below hB3).more hB3.size
    go_wp2_with (first | (at_builtin; refine wpList_app rfl (.tmp 20) (.tmp 21) 22 rfl w3.heap.size 5 i0 _ Try.underlying22 hi0 hz0 hz1 hz2 rfl (some ⟨w3.heap.size, 0, none⟩) 0 0 [] rfl rfl (Own.lit0 w3 w3.heap.size 5 (Nat.le_refl _)) w3.heap.size A0 l0.length c0 l0 rfl rfl p3.none_ (p3.sl.alloc (Nat.le_refl _) _) (by simp; omega) (by simp) ?_; intro A2 c2 w4 hown2 hgr2; have hb34 := below_lit' (Below.refl w3.heap.size w3) (Nat.le_refl _) hgr2) | (at_builtin; refine wpList_app rfl (.tmp 23) (.tmp 24) 22 rfl w4.heap.size 5 i0 _ Try.underlying22 hi0 hz0 hz1 hz2 rfl (some ⟨w4.heap.size, 0, none⟩) 0 0 [] rfl rfl (Own.lit0 w4 w4.heap.size 5 (Nat.le_refl _)) w3.heap.size A1 l1.length c1 l1 rfl rfl q3.none_ ((q3.sl.below hb34).alloc hb34.size _) (by simp; omega) (by simp) ?_; intro A5 c5 w5 hown5 hgr5; have hb45 := below_lit' (Below.refl w4.heap.size w4) (Nat.le_refl _) hgr5))
    have hb35 := hb34.trans (hb45.mono hb34.size)
    have hB5 := hB3.trans (hb35.mono hB3.size)
    have hF5 := hF.below hb35 hlf
    have a5 := (hown2.kept hb45).inn
    have b5 := hown5.inn
    simp only [List.nil_append] at a5 b5 ⊢
    have hm5 := hb35.size
    clear hgr2 hgr5 hb34 hb45 hb35 hown2 hown5 p3 q3
    go_wp2_with fail
    refine (padd_any A2 A5 c2 c5 l0 l1 w5 a5 b5 (by omega)).mono ?_
    rintro e w6 ⟨A6, c6, rfl, ho6, hb6⟩
    have a6 := (a5.below hb6).more hb6.size
    have b6 := (b5.below hb6).more hb6.size
    have hF6 := hF5.below hb6 hF5.lt
    have hs6 : (tr (add l0 l1)).length ≤ 200 := Nat.le_trans (tr_len _) (by rw [add_len]; omega)
    go_wp2_with fail
    refine (pmul_any _ A2 A5 c2 c5 l0 l1 w6 hF6 a6 b6 (by omega)).mono ?_
    rintro e w7 ⟨A7, c7, rfl, ho7, hb7⟩
    have hb57 := hb6.trans (hb7.mono hb6.size)
    have a7 := (a5.below hb57).more hb57.size
    have b7 := (b5.below hb57).more hb57.size
    have hF7 := hF5.below hb57 hF5.lt
    have hs7 : (tr (mul l0 l1)).length ≤ 400 := Nat.le_trans (tr_len _) (Nat.le_trans (mul_len _ _) (by omega))
    clear a6 b6 hF6
    go_wp2_with fail
    refine (div_all _ A2 A5 c2 c5 l0 l1 w7 hF7 a7 b7 hl0 hl1).mono ?_
    rintro e w8 ⟨q, r, Aq, Ar, cq, cr, ok, rfl, hql, hrl, hoq, hor, hap, hb8⟩
    have hb58 := hb57.trans (hb8.mono hb57.size)
    have ho68 := (ho6.kept hb7).kept hb8
    have ho78 := ho7.kept hb8
    have k6 := own_blk ho6
    have k7 := own_blk ho7
    have h56 := hb6.size
    have h67 := hb7.size
    clear a7 b7 hF7 ho6 ho7 hb6 hb7 hb57 hb8
    have HAP := Lib.hid hap
    clear hap
    go_wp2_with fail
    refine (spoil_own A6 c6 _ w8 _ ho68 (by omega)).mono ?_
    rintro e w9 ⟨rfl, hg9⟩
    have o79 := own_over ho78 hg9 (fun k e => (k6 k e).2)
    have oq9 := own_over hoq hg9 (fun k e => Nat.lt_of_lt_of_le (k6 k e).2 h67)
    have or9 := own_over hor hg9 (fun k e => Nat.lt_of_lt_of_le (k6 k e).2 h67)
    have hb59 := hb58.trans (below_blk ho68 hg9 (Nat.le_refl _) hb58.size)
    clear ho68 ho78 hoq hor hg9 hb58
    go_wp2_with fail
    refine (spoil_own A7 c7 _ w9 _ o79 (by omega)).mono ?_
    rintro e w10 ⟨rfl, hg10⟩
    have oq10 := own_over oq9 hg10 (fun k e => (k7 k e).2)
    have or10 := own_over or9 hg10 (fun k e => (k7 k e).2)
    have hb5a := hb59.trans (below_blk o79 hg10 h56 hb59.size)
    clear o79 oq9 or9 hg10 hb59
    go_wp2_with fail
    refine (spoil_own Aq cq _ w10 _ oq10 (by omega)).mono ?_
    rintro e w11 ⟨rfl, hg11⟩
    have or11 := own_apart or10 hg11 (fun k e => HAP.out k e)
    have hb5b := hb5a.trans (below_blk oq10 hg11 (Nat.le_trans h56 h67) hb5a.size)
    clear oq10 or10 hg11 hb5a
    go_wp2_with fail
    refine (spoil_own Ar cr _ w11 _ or11 (by omega)).mono ?_
    rintro e w12 ⟨rfl, hg12⟩
    have hb5c := hb5b.trans (below_blk or11 hg12 (Nat.le_trans h56 h67) hb5b.size)
    clear or11 hg12 hb5b
    go_wp2_with fail
    refine (answers_any _).mono ?_
    rintro e w13 ⟨rfl, hb13⟩
    have hb5d := hb5c.trans (hb13.mono hb5c.size)
    have hBd := hB5.trans (hb5d.mono hB5.size)
    have HS1 := Lib.hid (same_any A2 A0 c2 c0 l0 l0 w13 _ _ (a5.below hb5d) (w0.below hBd))
    have HS2 := Lib.hid (same_any A5 A1 c5 c1 l1 l1 w13 _ _ (b5.below hb5d) (w1.below hBd))
    rw [decide_eq_true (rfl : l0 = l0)] at HS1
    rw [decide_eq_true (rfl : l1 = l1)] at HS2
    clear hb13 hb5c
    go_wp2_with fail
    refine HS1.out.mono ?_
    rintro e w14 ⟨rfl, rfl⟩
    clear HS1
    go_wp2_with fail
    refine HS2.out.mono ?_
    rintro e w15 ⟨rfl, rfl⟩
    go_wp2
    go_ret
    exact ⟨rfl, hBd⟩
  · rw [Bool.eq_false_iff.2 hsh] at HS
    clear hsh
    go_enter Try.func7, Try.ntmps7
    go_wp2_with fail
    refine HS.out.mono ?_
    rintro e w2 ⟨rfl, rfl⟩
    clear HS
    go_wp2_with fail
    refine (answers_any _).mono ?_
    rintro e w3 ⟨rfl, hB⟩
    go_wp2
    go_ret
    exact ⟨rfl, hBa.trans (hB.mono hBa.size)⟩

set_option maxRecDepth 100000 in
theorem lifted (os : Os) (started : os.Started) (H : Type) (enc : TypeId × Value → H) :
    ReturnsInHanded {} Try.checked os 7 .any (Rows.polyOwnSpec.pre6 enc Try.prog Try.f7 Rows.polyOwnRow.domain false) (Rows.polyOwnSpec.post enc Try.prog Try.f7 false true false false) := by
  refine returnsInHanded_of_change_sized (C := Try.checked) own started (by kernel_rfl) Try.func7
    (ChangeSpec.witness6 (enc := enc) (C := Try.checked) false ⟨#[], #[.slice none 0 0, .slice none 0 0], []⟩ 8 (by kernel_rfl) (by kernel_rfl) (by kernel_rfl) (by kernel_rfl)) ?_
  intro W base args ds gs before hval0 hW _hcnd hsz0 _
  have hval : ∀ (j : Nat) t v, Try.f7.params[j]? = some t → args[j]? = some v → Value.okWide Try.prog W .any base t v := hval0
  have hW' := hW
  obtain ⟨p, q, hA0, hV, rfl, _hfz, _hnd⟩ := hW
  have hA : DataW.TrodAll enc Try.prog W 0 (fun _ => true) true Try.f7.params.toList args.toList ds p := hA0
  have hsz : (DataW.weightsEach Try.prog (Try.f7.params.toList ++ Rows.polyOwnSpec.plain.varTypes Try.prog) (ds ++ gs)).all (· ≤ reachBytes) = true := hsz0
  rw [Try.params7] at hA hval hsz
  obtain ⟨v0, vs0, d0, ds0, p0, q0, hargs, rfl, rfl, h0, r0⟩ := trodAll_cons hA
  obtain ⟨v1, vs1, d1, ds1, p1, q1, rfl, rfl, rfl, h1, r1⟩ := trodAll_cons r0
  obtain ⟨rfl, rfl, rfl⟩ := trodAll_nil r1
  obtain rfl : args = #[v0, v1] := by cases args; simp_all
  obtain ⟨rfl, rfl⟩ := trodVars_none hV
  have k0 := h0
  have lt0 : ∀ x ∈ p0, x.block < W.heap.size := by obtain ⟨m, hm⟩ := k0; exact DataW.trod_lt m _ _ _ hm
  obtain ⟨A0, c0, l0, rfl, w0, sz0⟩ := open_bytes Try.underlying22 Try.underlying5 (by kernel_rfl) (hval 0 22 v0 rfl rfl) h0
  have s0 := sized_bytes hsz (j := 0) (t := 22) (e := 5) rfl rfl Try.underlying22 (by kernel_rfl) sz0
  have k1 := h1
  have lt1 : ∀ x ∈ p1, x.block < W.heap.size := by obtain ⟨m, hm⟩ := k1; exact DataW.trod_lt m _ _ _ hm
  obtain ⟨A1, c1, l1, rfl, w1, sz1⟩ := open_bytes Try.underlying22 Try.underlying5 (by kernel_rfl) (hval 1 22 v1 rfl rfl) h1
  have s1 := sized_bytes hsz (j := 1) (t := 22) (e := 5) rfl rfl Try.underlying22 (by kernel_rfl) sz1
  clear hA0 hval0 hsz0 hsz
  refine (walk A0 c0 l0 A1 c1 l1 W w0 s0 w1 s1).mono fun e W' ⟨he, bel⟩ => ?_
  subst he
  exact ⟨_, rfl, _, _, _, [], _, [], hW', trodAll_mk1 (shut_bool Try.underlying4 _), (trodAll_cons_mk (Below.trod laidOut (by kernel_rfl) (of_decide_eq_true (by kernel_rfl)) k0 bel lt0) (trodAll_cons_mk (Below.trod laidOut (by kernel_rfl) (of_decide_eq_true (by kernel_rfl)) k1 bel lt1) trodAll_mk0)), rfl, bel.frame _, fun h => by cases h⟩

theorem over : Rows.polyOwnRow.holds Try.pinned (OpenSpec.ofChange Rows.polyOwnSpec) :=
  OpenClaim.holds_of_wide 7 Try.f7 rfl rfl rfl rfl rfl rfl rfl ⟨rfl, rfl, rfl, rfl, rfl⟩ rfl rfl rfl rfl rfl (by kernel_rfl) Try.func7 (by kernel_rfl)
    (of_decide_eq_true (by kernel_rfl)) (by unfold Func.isWrapper; first | (rw [if_pos (by decide +kernel)]; kernel_rfl) | (rw [if_neg (by decide +kernel)]; exact ⟨rfl, rfl⟩))
    (fun os started H enc _ => lifted os started H enc)

end Go.Proofs.Ytiefcfjepcgklaa.polyOwn
namespace Go.Proofs.Ytiefcfjepcgklaa
/-- The statement. -/
theorem polyOwn_holds : Rows.PolyOwnSaid := polyOwn.over
#print axioms polyOwn_holds
end Go.Proofs.Ytiefcfjepcgklaa

