/- For every input RsBack returns true, and every argument reads behind the call as it did before: no condition. -/
import Derived.Test.YtndieloekmibjaaRows
import Derived.ProofKit
import Derived.OpenShut
import Derived.SizedLaws
import Derived.ChangeOld
import Derived.Carry
import Derived.Test.YtndieloekmibjaaLawb
import Derived.Test.YtndieloekmibjaaRsc
import Derived.Test.YtndieloekmibjaaRpe
namespace Go.Proofs.Ytndieloekmibjaa.rsBack
open Go.ChangeShapes Go.WideShapes Go.ChangeAt Go.RowKit Go.Shelf Gw Pol

theorem own : ownKnob Try.prog.godebug = none := by kernel_rfl
theorem laidOut : laidOutB Try.prog = true := by kernel_rfl
set_option maxRecDepth 100000 in
set_option maxHeartbeats 1000000 in
theorem walk_nat (A0 : Option Addr) (c0 : Nat) (l0 : List Nat) (A1 : Option Addr) (c1 : Nat) (l1 : List Nat) (a : Nat) (ha : a < 256) (w : World) (w0 : In w w.heap.size A0 c0 l0) (s0 : c0 ≤ 140737488351232) (w1 : In w w.heap.size A1 c1 l1) (_s1 : c1 ≤ 140737488351232) :
    Calls Try.prog 6 #[.slice A0 l0.length c0, .slice A1 l1.length c1, .int .u8 (a : Int)] w fun e w' => e = .returned (.bool true) ∧ Below w.heap.size w w' := by
  have hcap0 := w0.cap
  have hcap1 := w1.cap
  obtain ⟨n, hn⟩ : ∃ n, n = a % 20 := ⟨_, rfl⟩
  have hn20 : n < 20 := by omega
  have hrem : ((a : Int)).tmod 20 = (n : Int) := by rw [hn, Int.tmod_eq_emod_of_nonneg (by omega)]; omega
  clear hn
  have HT := Lib.hid (trim_any A0 c0 l0 w _ w0 (Nat.le_refl _) (by omega))
  obtain ⟨t, ht⟩ : ∃ t, t = (tr l0).length := ⟨_, rfl⟩
  have htl : t ≤ l0.length := by rw [ht]; exact tr_len l0
  rw [← ht] at HT
  have HTL := Lib.hid ht
  clear ht
  by_cases hA : n + 1 < t
  · go_enter Try.func6, Try.ntmps6
    go_wp2_with fail
    refine HT.out.mono ?_
    rintro e w2 ⟨A2, c2, rfl, ho2, hb2⟩
    clear HT ho2
    go_wp2_with fail
    refine (answers_any _).mono ?_
    rintro e w3 ⟨rfl, hb3⟩
    go_wp2
    go_ret
    exact ⟨rfl, hb2.trans (hb3.mono hb2.size)⟩
  · by_cases hB : l1.length ≤ n
    · go_enter Try.func6, Try.ntmps6
      go_wp2_with fail
      refine HT.out.mono ?_
      rintro e w2 ⟨A2, c2, rfl, ho2, hb2⟩
      clear HT ho2
      go_wp2_with fail
      refine (answers_any _).mono ?_
      rintro e w3 ⟨rfl, hb3⟩
      go_wp2
      go_ret
      exact ⟨rfl, hb2.trans (hb3.mono hb2.size)⟩
    · by_cases hC : 30 < l1.length
      · go_enter Try.func6, Try.ntmps6
        go_wp2_with fail
        refine HT.out.mono ?_
        rintro e w2 ⟨A2, c2, rfl, ho2, hb2⟩
        clear HT ho2
        go_wp2_with fail
        refine (answers_any _).mono ?_
        rintro e w3 ⟨rfl, hb3⟩
        go_wp2
        go_ret
        exact ⟨rfl, hb2.trans (hb3.mono hb2.size)⟩
      · cases hu : unB l1 with
        | false =>
          have HUB := Lib.hid hu
          clear hu
          go_enter Try.func6, Try.ntmps6
          go_wp2_with fail
          refine HT.out.mono ?_
          rintro e w2 ⟨A2, c2, rfl, ho2, hb2⟩
          have HU := Lib.hid (unlike_any A1 c1 l1 w2 _ ((w1.below hb2).more hb2.size) (by omega))
          rw [HUB.out] at HU
          clear HT ho2
          go_wp2_with fail
          refine HU.out.mono ?_
          rintro e w3 ⟨rfl, m, rfl⟩
          clear HU
          go_wp2_with fail
          refine (answers_any _).mono ?_
          rintro e w4 ⟨rfl, hb4⟩
          go_wp2
          go_ret
          exact ⟨rfl, (Gw.Below.drewN hb2 m).trans (hb4.mono hb2.size)⟩
        | true =>
          have HUB := Lib.hid hu
          have HTE := Lib.hid (thr_enc w0.bb w1.bb (of_decide_eq_true hu) (by rw [← HTL.out]; omega))
          have HDB := Lib.hid (show decB l1 (enc l0 l1) (n : Int) = true by
            unfold decB
            rw [hu, HTE.out, ← HTL.out, decide_eq_true (by omega), decide_eq_true (enc_len l0 l1).symm, decide_eq_true (by omega)]; rfl)
          clear hu
          go_enter Try.func6, Try.ntmps6
          go_wp2_with fail
          refine HT.out.mono ?_
          rintro e w2 ⟨A2, c2, rfl, ho2, hb2⟩
          have HU := Lib.hid (unlike_any A1 c1 l1 w2 _ ((w1.below hb2).more hb2.size) (by omega))
          rw [HUB.out] at HU
          clear HT ho2
          go_wp2_with fail
          refine HU.out.mono ?_
          rintro e w3 ⟨rfl, m, hw3⟩
          have hB3 : Below w.heap.size w w3 := by rw [hw3]; exact Gw.Below.drewN hb2 m
          clear HU hw3 hb2
          go_wp2_with fail
          refine (new_any _).mono ?_
          rintro e w4 ⟨rfl, hF, hb4⟩
          have hB4 := hB3.trans (hb4.mono hB3.size)
          clear hb4
          have HE := Lib.hid (encode_any _ A0 A1 c0 c1 l0 l1 w4 hF ((w0.below hB4).more hB4.size) ((w1.below hB4).more hB4.size) (by omega) (by omega))
          go_wp2_with fail
          refine HE.out.mono ?_
          rintro e w5 ⟨A5, c5, rfl, ho5, hb5⟩
          have hB5 := hB4.trans (hb5.mono hB4.size)
          have hF5 := hF.below hb5 hF.lt
          clear HE hb5 hF
          have HD := Lib.hid (decode_any _ A1 A5 c1 c5 l1 (enc l0 l1) (n : Int) w5 hF5 ((w1.below hB5).more hB5.size) ho5.inn (by omega))
          clear ho5 hF5
          go_wp2_with fail
          refine HD.out.mono ?_
          rintro e w6 ⟨hb6, h6⟩
          rw [HDB.out, HTE.out, ← HTL.out] at h6
          rcases h6 with ⟨h6, _⟩ | ⟨_, A6, c6, rfl, ho6⟩
          · cases h6
          have hB6 := hB5.trans (hb6.mono hB5.size)
          clear HD hb6
          go_wp2_with fail
          refine (answers_any _).mono ?_
          rintro e w7 ⟨rfl, hb7⟩
          have hB7 := hB6.trans (hb7.mono hB6.size)
          have ho7 := ho6.kept hb7
          clear hb7 ho6
          have HT2 := Lib.hid (trim_any A0 c0 l0 w7 _ ((w0.below hB7).more hB7.size) (Nat.le_refl _) (by omega))
          rw [← HTL.out] at HT2
          go_wp2_with fail
          refine HT2.out.mono ?_
          rintro e w8 ⟨A8, c8, rfl, ho8, hb8⟩
          have hB8 := hB7.trans (hb8.mono hB7.size)
          have HS := Lib.hid (same_any A6 A8 c6 c8 (tr l0) (tr l0) w8 _ _ (ho7.kept hb8).inn ho8.inn)
          rw [decide_eq_true (rfl : tr l0 = tr l0), ← HTL.out] at HS
          clear hb8 HT2 ho7 ho8
          go_wp2_with fail
          refine HS.out.mono ?_
          rintro e w9 ⟨rfl, rfl⟩
          go_wp2
          go_ret
          exact ⟨rfl, hB8⟩
theorem walk (A0 : Option Addr) (c0 : Nat) (l0 : List Nat) (A1 : Option Addr) (c1 : Nat) (l1 : List Nat) (a2 : Int) (w : World) (w0 : In w w.heap.size A0 c0 l0) (s0 : c0 ≤ 140737488351232) (w1 : In w w.heap.size A1 c1 l1) (s1 : c1 ≤ 140737488351232) (w2 : (Lit.int .u8 a2).wf = true) :
    Calls Try.prog 6 #[.slice A0 l0.length c0, .slice A1 l1.length c1, .int .u8 a2] w fun e w' => e = .returned (.bool true) ∧ Below w.heap.size w w' := by
  obtain ⟨h1, h2⟩ := bounds_u8 w2
  obtain ⟨a, rfl⟩ := Int.eq_ofNat_of_zero_le h1
  exact walk_nat A0 c0 l0 A1 c1 l1 a (by omega) w w0 s0 w1 s1

set_option maxRecDepth 100000 in
theorem lifted (os : Os) (started : os.Started) (H : Type) (enc : TypeId × Value → H) :
    ReturnsInHanded {} Try.checked os 6 .any (Rows.rsBackSpec.pre6 enc Try.prog Try.f6 Rows.rsBackRow.domain false) (Rows.rsBackSpec.post enc Try.prog Try.f6 false true false false) := by
  refine returnsInHanded_of_change_sized (C := Try.checked) own started (by kernel_rfl) Try.func6
    (ChangeSpec.witness6 (enc := enc) (C := Try.checked) false ⟨#[], #[.slice none 0 0, .slice none 0 0, .int .u8 0], []⟩ 8 (by kernel_rfl) (by kernel_rfl) (by kernel_rfl) (by kernel_rfl)) ?_
  intro W base args ds gs before hval0 hW _hcnd hsz0 _
  have hval : ∀ (j : Nat) t v, Try.f6.params[j]? = some t → args[j]? = some v → Value.okWide Try.prog W .any base t v := hval0
  have hW' := hW
  obtain ⟨p, q, hA0, hV, rfl, _hfz, _hnd⟩ := hW
  have hA : DataW.TrodAll enc Try.prog W 0 (fun _ => true) true Try.f6.params.toList args.toList ds p := hA0
  have hsz : (DataW.weightsEach Try.prog (Try.f6.params.toList ++ Rows.rsBackSpec.plain.varTypes Try.prog) (ds ++ gs)).all (· ≤ reachBytes) = true := hsz0
  rw [Try.params6] at hA hval hsz
  obtain ⟨v0, vs0, d0, ds0, p0, q0, hargs, rfl, rfl, h0, r0⟩ := trodAll_cons hA
  obtain ⟨v1, vs1, d1, ds1, p1, q1, rfl, rfl, rfl, h1, r1⟩ := trodAll_cons r0
  obtain ⟨v2, vs2, d2, ds2, p2, q2, rfl, rfl, rfl, h2, r2⟩ := trodAll_cons r1
  obtain ⟨rfl, rfl, rfl⟩ := trodAll_nil r2
  obtain rfl : args = #[v0, v1, v2] := by cases args; simp_all
  obtain ⟨rfl, rfl⟩ := trodVars_none hV
  have k0 := h0
  have lt0 : ∀ x ∈ p0, x.block < W.heap.size := by obtain ⟨m, hm⟩ := k0; exact DataW.trod_lt m _ _ _ hm
  obtain ⟨A0, c0, l0, rfl, w0, sz0⟩ := open_bytes Try.underlying22 Try.underlying5 (by kernel_rfl) (hval 0 22 v0 rfl rfl) h0
  have s0 := sized_bytes hsz (j := 0) (t := 22) (e := 5) rfl rfl Try.underlying22 (by kernel_rfl) sz0
  have k1 := h1
  have lt1 : ∀ x ∈ p1, x.block < W.heap.size := by obtain ⟨m, hm⟩ := k1; exact DataW.trod_lt m _ _ _ hm
  obtain ⟨A1, c1, l1, rfl, w1, sz1⟩ := open_bytes Try.underlying22 Try.underlying5 (by kernel_rfl) (hval 1 22 v1 rfl rfl) h1
  have s1 := sized_bytes hsz (j := 1) (t := 22) (e := 5) rfl rfl Try.underlying22 (by kernel_rfl) sz1
  obtain ⟨a2, rfl, rfl, rfl, w2⟩ := open_int Try.underlying5 (hval 2 5 v2 rfl rfl) h2
  clear hA0 hval0 hsz0 hsz
  refine (walk A0 c0 l0 A1 c1 l1 a2 W w0 s0 w1 s1 w2).mono fun e W' ⟨he, bel⟩ => ?_
  subst he
  exact ⟨_, rfl, _, _, _, [], _, [], hW', trodAll_mk1 (shut_bool Try.underlying4 _), (trodAll_cons_mk (Below.trod laidOut (by kernel_rfl) (of_decide_eq_true (by kernel_rfl)) k0 bel lt0) (trodAll_cons_mk (Below.trod laidOut (by kernel_rfl) (of_decide_eq_true (by kernel_rfl)) k1 bel lt1) (trodAll_cons_mk (shut_int Try.underlying5 w2) trodAll_mk0))), rfl, bel.frame _, fun h => by cases h⟩

theorem over : Rows.rsBackRow.holds Try.pinned (OpenSpec.ofChange Rows.rsBackSpec) :=
  OpenClaim.holds_of_wide 6 Try.f6 rfl rfl rfl rfl rfl rfl rfl ⟨rfl, rfl, rfl, rfl, rfl⟩ rfl rfl rfl rfl rfl (by kernel_rfl) Try.func6 (by kernel_rfl)
    (of_decide_eq_true (by kernel_rfl)) (by unfold Func.isWrapper; first | (rw [if_pos (by decide +kernel)]; kernel_rfl) | (rw [if_neg (by decide +kernel)]; exact ⟨rfl, rfl⟩))
    (fun os started H enc _ => lifted os started H enc)

end Go.Proofs.Ytndieloekmibjaa.rsBack
namespace Go.Proofs.Ytndieloekmibjaa
/-- The statement. -/
theorem rsBack_holds : Rows.RsBackSaid := rsBack.over
#print axioms rsBack_holds
end Go.Proofs.Ytndieloekmibjaa

