/- For every input RsFar returns true, and every argument reads behind the call as it did before: no condition. -/
import Derived.Test.YtndieloekmibjaaRows
import Derived.ProofKit
import Derived.OpenShut
import Derived.SizedLaws
import Derived.ChangeOld
import Derived.Carry
import Derived.Test.YtndieloekmibjaaLawb
import Derived.Test.YtndieloekmibjaaRsc
import Derived.Test.YtndieloekmibjaaRpe
namespace Go.Proofs.Ytndieloekmibjaa.rsFar
open Go.ChangeShapes Go.WideShapes Go.ChangeAt Go.RowKit Go.Shelf Gw Pol

theorem own : ownKnob Try.prog.godebug = none := by kernel_rfl
theorem laidOut : laidOutB Try.prog = true := by kernel_rfl
set_option maxRecDepth 100000 in
set_option maxHeartbeats 1000000 in
theorem walk_long (A0 : Option Addr) (c0 : Nat) (l0 : List Nat) (A1 : Option Addr) (c1 : Nat) (l1 : List Nat) (A2 : Option Addr) (c2 : Nat) (l2 : List Nat) (w : World)
    (h : 100 < l0.length ∨ (¬ 100 < l0.length ∧ 100 < l1.length) ∨ (¬ 100 < l0.length ∧ ¬ 100 < l1.length ∧ 256 < l2.length)) :
    Calls Try.prog 5 #[.slice A0 l0.length c0, .slice A1 l1.length c1, .slice A2 l2.length c2] w fun e w' => e = .returned (.bool true) ∧ Below w.heap.size w w' := by
  rcases h with h | ⟨h, h1⟩ | ⟨h, h1, h2⟩
  all_goals (
    go_enter Try.func5, Try.ntmps5
    go_wp2_with fail
    refine (answers_any _).mono ?_
    rintro e w3 ⟨rfl, hB⟩
    go_wp2
    go_ret
    exact ⟨rfl, hB⟩)
set_option maxRecDepth 100000 in
set_option maxHeartbeats 1000000 in
theorem walk_twice (A0 : Option Addr) (c0 : Nat) (l0 : List Nat) (A1 : Option Addr) (c1 : Nat) (l1 : List Nat) (A2 : Option Addr) (c2 : Nat) (l2 : List Nat) (w : World) (w2 : In w w.heap.size A2 c2 l2)
    (h0 : ¬ 100 < l0.length) (h1 : ¬ 100 < l1.length) (h2 : ¬ 256 < l2.length) (hu : unB l2 = false) :
    Calls Try.prog 5 #[.slice A0 l0.length c0, .slice A1 l1.length c1, .slice A2 l2.length c2] w fun e w' => e = .returned (.bool true) ∧ Below w.heap.size w w' := by
  have HU := Lib.hid (unlike_any A2 c2 l2 w _ w2 (by omega))
  rw [hu] at HU
  go_enter Try.func5, Try.ntmps5
  go_wp2_with fail
  refine HU.out.mono ?_
  rintro e w3 ⟨rfl, m, rfl⟩
  clear HU
  go_wp2_with fail
  refine (answers_any _).mono ?_
  rintro e w4 ⟨rfl, hb4⟩
  go_wp2
  go_ret
  exact ⟨rfl, (Gw.Below.drewN (Below.refl _ _) m).trans hb4⟩
/-- Between two rounds. -/
def FaRel (a b : List Nat) (n : Nat) (w : World) (s i : Value) (wr : World) : Prop := ∃ k m : Nat, k ≤ n ∧ i = .int .i64 (k : Int) ∧ s = .int .i64 (sameTo a b k : Int) ∧ wr = w.drewN m
set_option maxRecDepth 100000 in
set_option maxHeartbeats 1000000 in
theorem walk_some (A0 : Option Addr) (c0 : Nat) (l0 : List Nat) (A1 : Option Addr) (c1 : Nat) (l1 : List Nat) (A2 : Option Addr) (c2 : Nat) (l2 : List Nat) (w : World) (w0 : In w w.heap.size A0 c0 l0) (w1 : In w w.heap.size A1 c1 l1) (w2 : In w w.heap.size A2 c2 l2)
    (h0 : ¬ 100 < l0.length) (h1 : ¬ 100 < l1.length) (h2 : ¬ 256 < l2.length) (hu : unB l2 = true) :
    Calls Try.prog 5 #[.slice A0 l0.length c0, .slice A1 l1.length c1, .slice A2 l2.length c2] w fun e w' => e = .returned (.bool true) ∧ Below w.heap.size w w' := by
  have HU := Lib.hid (unlike_any A2 c2 l2 w _ w2 (by omega))
  rw [hu] at HU
  have HN := Lib.hid (of_decide_eq_true hu)
  clear hu
  have HL0 := Lib.hid (enc_len l0 l2)
  have HL1 := Lib.hid (enc_len l1 l2)
  go_enter Try.func5, Try.ntmps5
  go_wp2_with fail
  refine HU.out.mono ?_
  rintro e w3 ⟨rfl, m, hw3⟩
  have hB3 : Below w.heap.size w w3 := by rw [hw3]; exact Gw.Below.drewN (Below.refl _ _) m
  clear HU hw3
  have HT := Lib.hid (trim_any A0 c0 l0 w3 _ ((w0.below hB3).more hB3.size) (Nat.le_refl _) (by omega))
  go_wp2_with fail
  refine HT.out.mono ?_
  rintro e w4 ⟨A4, c4, rfl, ho4, hb4⟩
  have hB4 := hB3.trans (hb4.mono hB3.size)
  clear hb4 HT
  have HT := Lib.hid (trim_any A1 c1 l1 w4 _ ((w1.below hB4).more hB4.size) (Nat.le_refl _) (by omega))
  go_wp2_with fail
  refine HT.out.mono ?_
  rintro e w5 ⟨A5, c5, rfl, ho5, hb5⟩
  have hB5 := hB4.trans (hb5.mono hB4.size)
  have ho45 := ho4.kept hb5
  clear hb5 HT ho4
  have HS := Lib.hid (same_any A4 A5 c4 c5 (tr l0) (tr l1) w5 _ _ ho45.inn ho5.inn)
  clear ho45 ho5
  by_cases he : tr l0 = tr l1
  · rw [decide_eq_true he] at HS
    clear he
    go_wp2_with fail
    refine HS.out.mono ?_
    rintro e w6 ⟨rfl, rfl⟩
    go_wp2_with fail
    refine (answers_any _).mono ?_
    rintro e w7 ⟨rfl, hb7⟩
    go_wp2
    go_ret
    exact ⟨rfl, hB5.trans (hb7.mono hB5.size)⟩
  · rw [decide_eq_false he] at HS
    have HF := Lib.hid (few_same w0.bb w1.bb w2.bb HN.out he)
    clear he
    go_wp2_with fail
    refine HS.out.mono ?_
    rintro e w6 ⟨rfl, rfl⟩
    clear HS
    go_wp2_with fail
    refine (new_any _).mono ?_
    rintro e w7 ⟨rfl, hF, hb7⟩
    have hB7 := hB5.trans (hb7.mono hB5.size)
    clear hb7
    have HE := Lib.hid (encode_any _ A0 A2 c0 c2 l0 l2 w7 hF ((w0.below hB7).more hB7.size) ((w2.below hB7).more hB7.size) (by omega) (by omega))
    go_wp2_with fail
    refine HE.out.mono ?_
    rintro e w8 ⟨A8, c8, rfl, ho8, hb8⟩
    rw [HL0.out]
    have hB8 := hB7.trans (hb8.mono hB7.size)
    have hF8 := hF.below hb8 hF.lt
    clear HE hb8 hF
    have HE := Lib.hid (encode_any _ A1 A2 c1 c2 l1 l2 w8 hF8 ((w1.below hB8).more hB8.size) ((w2.below hB8).more hB8.size) (by omega) (by omega))
    go_wp2_with fail
    refine HE.out.mono ?_
    rintro e w9 ⟨A9, c9, rfl, ho9, hb9⟩
    rw [HL1.out]
    have hB9 := hB8.trans (hb9.mono hB8.size)
    have ho89 := ho8.kept hb9
    clear HE hb9 hF8 ho8
    go_wp2
    go_loopw [10, 11] (FaRel (enc l0 l2) (enc l1 l2) l2.length w9) (fun _ i _ => l2.length - (intOf i).toNat)
    case atStart => exact ⟨0, 0, Nat.zero_le _, rfl, rfl, rfl⟩
    case round =>
      obtain ⟨k, m9, hk, rfl, rfl, hwr⟩ := hrel
      have ho8r : Gw.Own wr w7.heap.size 5 A8 c8 (enc l0 l2) := by rw [hwr]; exact ho89.drewN m9
      have ho9r : Gw.Own wr w8.heap.size 5 A9 c9 (enc l1 l2) := by rw [hwr]; exact ho9.drewN m9
      have hBr : Below w.heap.size w wr := by rw [hwr]; exact Gw.Below.drewN hB9 m9
      have HW := Lib.hid hwr
      clear hwr ho89 ho9 hB9
      have hsk := sameTo_le (enc l0 l2) (enc l1 l2) k
      by_cases hlt : k < l2.length
      · obtain ⟨x, b, off, hx, hxb, rfl, hb, hcx⟩ := ho8r.sl.at_ (show k < (enc l0 l2).length by rw [HL0.out]; exact hlt)
        obtain ⟨y, b', off', hy, hyb, rfl, hb', hcy⟩ := ho9r.sl.at_ (show k < (enc l1 l2).length by rw [HL1.out]; exact hlt)
        have HX := Lib.hid (co_of' hx)
        have HY := Lib.hid (co_of' hy)
        clear hx hy
        by_cases e : x = y
        · have hq : ((x : Int) == (y : Int)) = true := by rw [beq_iff_eq]; omega
          have HJ := Lib.hid (show sameTo (enc l0 l2) (enc l1 l2) (k + 1) = sameTo (enc l0 l2) (enc l1 l2) k + 1 by rw [sameTo, if_pos (by rw [HX.out, HY.out]; exact e)])
          clear e
          obtain ⟨s, hs⟩ : ∃ s, s = sameTo (enc l0 l2) (enc l1 l2) k := ⟨_, rfl⟩
          rw [← hs] at hsk HJ ⊢
          have HSS := Lib.hid hs
          clear hs
          go_wp2
          go_quiet (fail)
          go_wp2
          go_roundw
          case rel => exact ⟨k + 1, m9 + nq, by omega, by go_num, by rw [HJ.out]; rfl, by rw [HW.out, World.drewN_drewN]⟩
          case measure => simp [intOf]; omega
        · have hq : ((x : Int) == (y : Int)) = false := beq_eq_false_iff_ne.2 (by omega)
          have HJ := Lib.hid (show sameTo (enc l0 l2) (enc l1 l2) (k + 1) = sameTo (enc l0 l2) (enc l1 l2) k by rw [sameTo, if_neg (by rw [HX.out, HY.out]; exact e)])
          clear e
          go_wp2
          go_quiet (fail)
          go_wp2
          go_roundw
          case rel => exact ⟨k + 1, m9 + nq, by omega, by go_num, by rw [HJ.out], by rw [HW.out, World.drewN_drewN]⟩
          case measure => simp [intOf]; omega
      · obtain rfl : k = l2.length := by omega
        have hf := HF.out
        obtain ⟨s, hs⟩ : ∃ s, s = sameTo (enc l0 l2) (enc l1 l2) l2.length := ⟨_, rfl⟩
        rw [← hs] at hsk hf ⊢
        clear hs HF
        go_wp2_with fail
        refine (answers_any _).mono ?_
        rintro e w10 ⟨rfl, hb10⟩
        have hBe := hBr.trans (hb10.mono hBr.size)
        have hpq : (l0.length < l1.length ∧ s < l1.length) ∨ (¬ l0.length < l1.length ∧ s < l0.length) := by omega
        clear hf
        rcases hpq with ⟨hpq, hf⟩ | ⟨hpq, hf⟩
        all_goals (
          go_wp2
          go_ret
          exact ⟨rfl, hBe⟩)
theorem walk (A0 : Option Addr) (c0 : Nat) (l0 : List Nat) (A1 : Option Addr) (c1 : Nat) (l1 : List Nat) (A2 : Option Addr) (c2 : Nat) (l2 : List Nat) (w : World) (w0 : In w w.heap.size A0 c0 l0) (_s0 : c0 ≤ 140737488351232) (w1 : In w w.heap.size A1 c1 l1) (_s1 : c1 ≤ 140737488351232)
    (w2 : In w w.heap.size A2 c2 l2) (_s2 : c2 ≤ 140737488351232) :
    Calls Try.prog 5 #[.slice A0 l0.length c0, .slice A1 l1.length c1, .slice A2 l2.length c2] w fun e w' => e = .returned (.bool true) ∧ Below w.heap.size w w' := by
  by_cases h0 : 100 < l0.length
  · exact walk_long A0 c0 l0 A1 c1 l1 A2 c2 l2 w (.inl h0)
  · by_cases h1 : 100 < l1.length
    · exact walk_long A0 c0 l0 A1 c1 l1 A2 c2 l2 w (.inr (.inl ⟨h0, h1⟩))
    · by_cases h2 : 256 < l2.length
      · exact walk_long A0 c0 l0 A1 c1 l1 A2 c2 l2 w (.inr (.inr ⟨h0, h1, h2⟩))
      · cases hu : unB l2 with
        | false => exact walk_twice A0 c0 l0 A1 c1 l1 A2 c2 l2 w w2 h0 h1 h2 hu
        | true => exact walk_some A0 c0 l0 A1 c1 l1 A2 c2 l2 w w0 w1 w2 h0 h1 h2 hu

set_option maxRecDepth 100000 in
theorem lifted (os : Os) (started : os.Started) (H : Type) (enc : TypeId × Value → H) :
    ReturnsInHanded {} Try.checked os 5 .any (Rows.rsFarSpec.pre6 enc Try.prog Try.f5 Rows.rsFarRow.domain false) (Rows.rsFarSpec.post enc Try.prog Try.f5 false true false false) := by
  refine returnsInHanded_of_change_sized (C := Try.checked) own started (by kernel_rfl) Try.func5
    (ChangeSpec.witness6 (enc := enc) (C := Try.checked) false ⟨#[], #[.slice none 0 0, .slice none 0 0, .slice none 0 0], []⟩ 8 (by kernel_rfl) (by kernel_rfl) (by kernel_rfl) (by kernel_rfl)) ?_
  intro W base args ds gs before hval0 hW _hcnd hsz0 _
  have hval : ∀ (j : Nat) t v, Try.f5.params[j]? = some t → args[j]? = some v → Value.okWide Try.prog W .any base t v := hval0
  have hW' := hW
  obtain ⟨p, q, hA0, hV, rfl, _hfz, _hnd⟩ := hW
  have hA : DataW.TrodAll enc Try.prog W 0 (fun _ => true) true Try.f5.params.toList args.toList ds p := hA0
  have hsz : (DataW.weightsEach Try.prog (Try.f5.params.toList ++ Rows.rsFarSpec.plain.varTypes Try.prog) (ds ++ gs)).all (· ≤ reachBytes) = true := hsz0
  rw [Try.params5] at hA hval hsz
  obtain ⟨v0, vs0, d0, ds0, p0, q0, hargs, rfl, rfl, h0, r0⟩ := trodAll_cons hA
  obtain ⟨v1, vs1, d1, ds1, p1, q1, rfl, rfl, rfl, h1, r1⟩ := trodAll_cons r0
  obtain ⟨v2, vs2, d2, ds2, p2, q2, rfl, rfl, rfl, h2, r2⟩ := trodAll_cons r1
  obtain ⟨rfl, rfl, rfl⟩ := trodAll_nil r2
  obtain rfl : args = #[v0, v1, v2] := by cases args; simp_all
  obtain ⟨rfl, rfl⟩ := trodVars_none hV
  have k0 := h0
  have lt0 : ∀ x ∈ p0, x.block < W.heap.size := by obtain ⟨m, hm⟩ := k0; exact DataW.trod_lt m _ _ _ hm
  obtain ⟨A0, c0, l0, rfl, w0, sz0⟩ := open_bytes Try.underlying22 Try.underlying5 (by kernel_rfl) (hval 0 22 v0 rfl rfl) h0
  have s0 := sized_bytes hsz (j := 0) (t := 22) (e := 5) rfl rfl Try.underlying22 (by kernel_rfl) sz0
  have k1 := h1
  have lt1 : ∀ x ∈ p1, x.block < W.heap.size := by obtain ⟨m, hm⟩ := k1; exact DataW.trod_lt m _ _ _ hm
  obtain ⟨A1, c1, l1, rfl, w1, sz1⟩ := open_bytes Try.underlying22 Try.underlying5 (by kernel_rfl) (hval 1 22 v1 rfl rfl) h1
  have s1 := sized_bytes hsz (j := 1) (t := 22) (e := 5) rfl rfl Try.underlying22 (by kernel_rfl) sz1
  have k2 := h2
  have lt2 : ∀ x ∈ p2, x.block < W.heap.size := by obtain ⟨m, hm⟩ := k2; exact DataW.trod_lt m _ _ _ hm
  obtain ⟨A2, c2, l2, rfl, w2, sz2⟩ := open_bytes Try.underlying22 Try.underlying5 (by kernel_rfl) (hval 2 22 v2 rfl rfl) h2
  have s2 := sized_bytes hsz (j := 2) (t := 22) (e := 5) rfl rfl Try.underlying22 (by kernel_rfl) sz2
  clear hA0 hval0 hsz0 hsz
  refine (walk A0 c0 l0 A1 c1 l1 A2 c2 l2 W w0 s0 w1 s1 w2 s2).mono fun e W' ⟨he, bel⟩ => ?_
  subst he
  exact ⟨_, rfl, _, _, _, [], _, [], hW', trodAll_mk1 (shut_bool Try.underlying4 _), (trodAll_cons_mk (Below.trod laidOut (by kernel_rfl) (of_decide_eq_true (by kernel_rfl)) k0 bel lt0) (trodAll_cons_mk (Below.trod laidOut (by kernel_rfl) (of_decide_eq_true (by kernel_rfl)) k1 bel lt1) (trodAll_cons_mk (Below.trod laidOut (by kernel_rfl) (of_decide_eq_true (by kernel_rfl)) k2 bel lt2) trodAll_mk0))), rfl, bel.frame _, fun h => by cases h⟩

theorem over : Rows.rsFarRow.holds Try.pinned (OpenSpec.ofChange Rows.rsFarSpec) :=
  OpenClaim.holds_of_wide 5 Try.f5 rfl rfl rfl rfl rfl rfl rfl ⟨rfl, rfl, rfl, rfl, rfl⟩ rfl rfl rfl rfl rfl (by kernel_rfl) Try.func5 (by kernel_rfl)
    (of_decide_eq_true (by kernel_rfl)) (by unfold Func.isWrapper; first | (rw [if_pos (by decide +kernel)]; kernel_rfl) | (rw [if_neg (by decide +kernel)]; exact ⟨rfl, rfl⟩))
    (fun os started H enc _ => lifted os started H enc)

end Go.Proofs.Ytndieloekmibjaa.rsFar
namespace Go.Proofs.Ytndieloekmibjaa
/-- The statement. -/
theorem rsFar_holds : Rows.RsFarSaid := rsFar.over
#print axioms rsFar_holds
end Go.Proofs.Ytndieloekmibjaa

