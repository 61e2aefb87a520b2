/- For every input RsDecodes returns true, and every argument reads behind the call as it did before: no condition. -/
import Derived.Test.YtndieloekmibjaaRows
import Derived.ProofKit
import Derived.OpenShut
import Derived.SizedLaws
import Derived.ChangeOld
import Derived.Carry
import Derived.Test.YtndieloekmibjaaLawb
import Derived.Test.YtndieloekmibjaaRsc
import Derived.Test.YtndieloekmibjaaRpe
namespace Go.Proofs.Ytndieloekmibjaa.rsDecodes
open Go.ChangeShapes Go.WideShapes Go.ChangeAt Go.RowKit Go.Shelf Gw Pol

theorem own : ownKnob Try.prog.godebug = none := by kernel_rfl
theorem laidOut : laidOutB Try.prog = true := by kernel_rfl
set_option maxRecDepth 100000 in
set_option maxHeartbeats 1000000 in
theorem walk_long (A0 : Option Addr) (c0 : Nat) (l0 : List Nat) (A1 : Option Addr) (c1 : Nat) (l1 : List Nat) (d : Int) (w : World) (h : 20 < l0.length ∨ (¬ 20 < l0.length ∧ 20 < l1.length)) :
    Calls Try.prog 4 #[.slice A0 l0.length c0, .slice A1 l1.length c1, .int .i64 d] w fun e w' => e = .returned (.bool true) ∧ Below w.heap.size w w' := by
  rcases h with h | ⟨h, h1⟩
  all_goals (
    go_enter Try.func4, Try.ntmps4
    go_wp2_with fail
    refine (answers_any _).mono ?_
    rintro e w3 ⟨rfl, hB⟩
    go_wp2
    go_ret
    exact ⟨rfl, hB⟩)
/-- What the law asks before it looks for the polynomial. -/
theorem dec_parts {l0 l1 : List Nat} {d : Int} (h : decB l0 l1 d = true) : (0 ≤ d ∧ d < l0.length) ∧ l0.length = l1.length ∧ unB l0 = true ∧ ((thr l0 l1).length : Int) - 1 ≤ d := by
  unfold decB at h
  simpa only [Bool.and_eq_true, decide_eq_true_eq] using h
theorem dec_make {l0 l1 : List Nat} {d : Int} (h1 : 0 ≤ d) (h2 : d < l0.length) (h3 : l0.length = l1.length) (h4 : unB l0 = true) (h5 : ((thr l0 l1).length : Int) - 1 ≤ d) : decB l0 l1 d = true := by
  unfold decB
  simp only [Bool.and_eq_true, decide_eq_true_eq]
  exact ⟨⟨h1, h2⟩, h3, h4, h5⟩
set_option maxRecDepth 100000 in
set_option maxHeartbeats 1000000 in
theorem walk_none (A0 : Option Addr) (c0 : Nat) (l0 : List Nat) (A1 : Option Addr) (c1 : Nat) (l1 : List Nat) (d : Int) (w : World) (w0 : In w w.heap.size A0 c0 l0) (w1 : In w w.heap.size A1 c1 l1) (h0 : ¬ 20 < l0.length) (h1 : ¬ 20 < l1.length)
    (h : decB l0 l1 d = false) :
    Calls Try.prog 4 #[.slice A0 l0.length c0, .slice A1 l1.length c1, .int .i64 d] w fun e w' => e = .returned (.bool true) ∧ Below w.heap.size w w' := by
  have HB := Lib.hid h
  clear h
  go_enter Try.func4, Try.ntmps4
  go_wp2_with fail
  refine (new_any _).mono ?_
  rintro e w2 ⟨rfl, hF, hB⟩
  have HD := Lib.hid (decode_any _ A0 A1 c0 c1 l0 l1 d w2 hF ((w0.below hB).more hB.size) ((w1.below hB).more hB.size) (by omega))
  clear hF
  go_wp2_with fail
  refine HD.out.mono ?_
  rintro e w3 ⟨hb3, h3⟩
  rw [HB.out] at h3
  rcases h3 with ⟨_, rfl⟩ | ⟨h3, _⟩
  case inr => cases h3
  have hB3 := hB.trans (hb3.mono hB.size)
  clear hb3 HD
  by_cases hl : l0.length = l1.length
  · have hq : (((l0.length : Int)) != ((l1.length : Int))) = false := by rw [bne_eq_false_iff_eq]; omega
    have HU := Lib.hid (unlike_any A0 c0 l0 w3 _ ((w0.below hB3).more hB3.size) (by omega))
    have HLL := Lib.hid hl
    clear hl
    cases hu : unB l0 with
    | false =>
      rw [hu] at HU
      go_wp2_with fail
      refine HU.out.mono ?_
      rintro e w4 ⟨rfl, m, rfl⟩
      clear HU
      go_wp2_with fail
      refine (answers_any _).mono ?_
      rintro e w5 ⟨rfl, hb5⟩
      go_wp2
      go_ret
      exact ⟨rfl, (Gw.Below.drewN hB3 m).trans (hb5.mono hB3.size)⟩
    | true =>
      rw [hu] at HU
      by_cases hd0 : d < 0
      · go_wp2_with fail
        refine HU.out.mono ?_
        rintro e w4 ⟨rfl, m, rfl⟩
        clear HU
        go_wp2_with fail
        refine (answers_any _).mono ?_
        rintro e w5 ⟨rfl, hb5⟩
        go_wp2
        go_ret
        exact ⟨rfl, (Gw.Below.drewN hB3 m).trans (hb5.mono hB3.size)⟩
      · by_cases hdl : (l0.length : Int) ≤ d
        · go_wp2_with fail
          refine HU.out.mono ?_
          rintro e w4 ⟨rfl, m, rfl⟩
          clear HU
          go_wp2_with fail
          refine (answers_any _).mono ?_
          rintro e w5 ⟨rfl, hb5⟩
          go_wp2
          go_ret
          exact ⟨rfl, (Gw.Below.drewN hB3 m).trans (hb5.mono hB3.size)⟩
        · have hdg : ¬ ((thr l0 l1).length : Int) - 1 ≤ d := fun h5 => by
            have := dec_make (by omega) (by omega) HLL.out hu h5
            rw [HB.out] at this; cases this
          have hln := thr_len l0 l1
          go_wp2_with fail
          refine HU.out.mono ?_
          rintro e w4 ⟨rfl, m, hw4⟩
          have hB4 : Below w.heap.size w w4 := by rw [hw4]; exact Gw.Below.drewN hB3 m
          clear HU hw4
          have HT := Lib.hid (rthrough_any A0 A1 c0 c1 l0 l1 w4 ((w0.below hB4).more hB4.size) ((w1.below hB4).more hB4.size) (Nat.le_of_eq HLL.out) (by omega))
          go_wp2_with fail
          refine HT.out.mono ?_
          rintro e w5 ⟨A5, c5, rfl, ho5, hb5⟩
          have hB5 := hB4.trans (hb5.mono hB4.size)
          clear HT hb5 ho5
          go_wp2_with fail
          refine (answers_any _).mono ?_
          rintro e w6 ⟨rfl, hb6⟩
          go_wp2
          go_ret
          exact ⟨rfl, hB5.trans (hb6.mono hB5.size)⟩
  · have hq : (((l0.length : Int)) != ((l1.length : Int))) = true := by rw [bne_iff_ne]; omega
    clear hl
    go_wp2_with fail
    refine (answers_any _).mono ?_
    rintro e w5 ⟨rfl, hb5⟩
    go_wp2
    go_ret
    exact ⟨rfl, hB3.trans (hb5.mono hB3.size)⟩
set_option maxRecDepth 100000 in
set_option maxHeartbeats 1000000 in
theorem walk_some (A0 : Option Addr) (c0 : Nat) (l0 : List Nat) (A1 : Option Addr) (c1 : Nat) (l1 : List Nat) (d : Int) (w : World) (w0 : In w w.heap.size A0 c0 l0) (w1 : In w w.heap.size A1 c1 l1) (h0 : ¬ 20 < l0.length) (h1 : ¬ 20 < l1.length)
    (h : decB l0 l1 d = true) :
    Calls Try.prog 4 #[.slice A0 l0.length c0, .slice A1 l1.length c1, .int .i64 d] w fun e w' => e = .returned (.bool true) ∧ Below w.heap.size w w' := by
  have HB := Lib.hid h
  obtain ⟨⟨hd0, hdl⟩, hl, hu, hdg⟩ := dec_parts h
  clear h
  have hq : (((l0.length : Int)) != ((l1.length : Int))) = false := by rw [bne_eq_false_iff_eq]; omega
  have HLL := Lib.hid hl
  clear hl
  have hln := thr_len l0 l1
  go_enter Try.func4, Try.ntmps4
  go_wp2_with fail
  refine (new_any _).mono ?_
  rintro e w2 ⟨rfl, hF, hB⟩
  have HD := Lib.hid (decode_any _ A0 A1 c0 c1 l0 l1 d w2 hF ((w0.below hB).more hB.size) ((w1.below hB).more hB.size) (by omega))
  clear hF
  go_wp2_with fail
  refine HD.out.mono ?_
  rintro e w3 ⟨hb3, h3⟩
  rw [HB.out] at h3
  rcases h3 with ⟨h3, _⟩ | ⟨_, A3, c3, rfl, ho3⟩
  · cases h3
  have hB3 := hB.trans (hb3.mono hB.size)
  clear hb3 HD
  have HU := Lib.hid (unlike_any A0 c0 l0 w3 _ ((w0.below hB3).more hB3.size) (by omega))
  rw [hu] at HU
  go_wp2_with fail
  refine HU.out.mono ?_
  rintro e w4 ⟨rfl, m, hw4⟩
  have hB4 : Below w.heap.size w w4 := by rw [hw4]; exact Gw.Below.drewN hB3 m
  have ho4 : Gw.Own w4 w2.heap.size 5 A3 c3 (thr l0 l1) := by rw [hw4]; exact ho3.drewN m
  clear HU hw4 ho3
  have HT := Lib.hid (rthrough_any A0 A1 c0 c1 l0 l1 w4 ((w0.below hB4).more hB4.size) ((w1.below hB4).more hB4.size) (Nat.le_of_eq HLL.out) (by omega))
  go_wp2_with fail
  refine HT.out.mono ?_
  rintro e w5 ⟨A5, c5, rfl, ho5, hb5⟩
  have hB5 := hB4.trans (hb5.mono hB4.size)
  have ho45 := ho4.kept hb5
  clear HT hb5 ho4
  go_wp2_with fail
  refine (answers_any _).mono ?_
  rintro e w6 ⟨rfl, hb6⟩
  have HS := Lib.hid (same_any A3 A5 c3 c5 (thr l0 l1) (thr l0 l1) w6 _ _ (ho45.kept hb6).inn (ho5.kept hb6).inn)
  rw [decide_eq_true (rfl : thr l0 l1 = thr l0 l1)] at HS
  have hB6 := hB5.trans (hb6.mono hB5.size)
  clear hb6 ho45 ho5
  go_wp2_with fail
  refine HS.out.mono ?_
  rintro e w7 ⟨rfl, rfl⟩
  go_wp2
  go_ret
  exact ⟨rfl, hB6⟩
theorem walk (A0 : Option Addr) (c0 : Nat) (l0 : List Nat) (A1 : Option Addr) (c1 : Nat) (l1 : List Nat) (a2 : Int) (w : World) (w0 : In w w.heap.size A0 c0 l0) (_s0 : c0 ≤ 140737488351232) (w1 : In w w.heap.size A1 c1 l1) (_s1 : c1 ≤ 140737488351232) (_w2 : (Lit.int .i64 a2).wf = true) :
    Calls Try.prog 4 #[.slice A0 l0.length c0, .slice A1 l1.length c1, .int .i64 a2] w fun e w' => e = .returned (.bool true) ∧ Below w.heap.size w w' := by
  by_cases h0 : 20 < l0.length
  · exact walk_long A0 c0 l0 A1 c1 l1 a2 w (.inl h0)
  · by_cases h1 : 20 < l1.length
    · exact walk_long A0 c0 l0 A1 c1 l1 a2 w (.inr ⟨h0, h1⟩)
    · cases h : decB l0 l1 a2 with
      | false => exact walk_none A0 c0 l0 A1 c1 l1 a2 w w0 w1 h0 h1 h
      | true => exact walk_some A0 c0 l0 A1 c1 l1 a2 w w0 w1 h0 h1 h

set_option maxRecDepth 100000 in
theorem lifted (os : Os) (started : os.Started) (H : Type) (enc : TypeId × Value → H) :
    ReturnsInHanded {} Try.checked os 4 .any (Rows.rsDecodesSpec.pre6 enc Try.prog Try.f4 Rows.rsDecodesRow.domain false) (Rows.rsDecodesSpec.post enc Try.prog Try.f4 false true false false) := by
  refine returnsInHanded_of_change_sized (C := Try.checked) own started (by kernel_rfl) Try.func4
    (ChangeSpec.witness6 (enc := enc) (C := Try.checked) false ⟨#[], #[.slice none 0 0, .slice none 0 0, .int .i64 0], []⟩ 8 (by kernel_rfl) (by kernel_rfl) (by kernel_rfl) (by kernel_rfl)) ?_
  intro W base args ds gs before hval0 hW _hcnd hsz0 _
  have hval : ∀ (j : Nat) t v, Try.f4.params[j]? = some t → args[j]? = some v → Value.okWide Try.prog W .any base t v := hval0
  have hW' := hW
  obtain ⟨p, q, hA0, hV, rfl, _hfz, _hnd⟩ := hW
  have hA : DataW.TrodAll enc Try.prog W 0 (fun _ => true) true Try.f4.params.toList args.toList ds p := hA0
  have hsz : (DataW.weightsEach Try.prog (Try.f4.params.toList ++ Rows.rsDecodesSpec.plain.varTypes Try.prog) (ds ++ gs)).all (· ≤ reachBytes) = true := hsz0
  rw [Try.params4] at hA hval hsz
  obtain ⟨v0, vs0, d0, ds0, p0, q0, hargs, rfl, rfl, h0, r0⟩ := trodAll_cons hA
  obtain ⟨v1, vs1, d1, ds1, p1, q1, rfl, rfl, rfl, h1, r1⟩ := trodAll_cons r0
  obtain ⟨v2, vs2, d2, ds2, p2, q2, rfl, rfl, rfl, h2, r2⟩ := trodAll_cons r1
  obtain ⟨rfl, rfl, rfl⟩ := trodAll_nil r2
  obtain rfl : args = #[v0, v1, v2] := by cases args; simp_all
  obtain ⟨rfl, rfl⟩ := trodVars_none hV
  have k0 := h0
  have lt0 : ∀ x ∈ p0, x.block < W.heap.size := by obtain ⟨m, hm⟩ := k0; exact DataW.trod_lt m _ _ _ hm
  obtain ⟨A0, c0, l0, rfl, w0, sz0⟩ := open_bytes Try.underlying22 Try.underlying5 (by kernel_rfl) (hval 0 22 v0 rfl rfl) h0
  have s0 := sized_bytes hsz (j := 0) (t := 22) (e := 5) rfl rfl Try.underlying22 (by kernel_rfl) sz0
  have k1 := h1
  have lt1 : ∀ x ∈ p1, x.block < W.heap.size := by obtain ⟨m, hm⟩ := k1; exact DataW.trod_lt m _ _ _ hm
  obtain ⟨A1, c1, l1, rfl, w1, sz1⟩ := open_bytes Try.underlying22 Try.underlying5 (by kernel_rfl) (hval 1 22 v1 rfl rfl) h1
  have s1 := sized_bytes hsz (j := 1) (t := 22) (e := 5) rfl rfl Try.underlying22 (by kernel_rfl) sz1
  obtain ⟨a2, rfl, rfl, rfl, w2⟩ := open_int Try.underlying3 (hval 2 3 v2 rfl rfl) h2
  clear hA0 hval0 hsz0 hsz
  refine (walk A0 c0 l0 A1 c1 l1 a2 W w0 s0 w1 s1 w2).mono fun e W' ⟨he, bel⟩ => ?_
  subst he
  exact ⟨_, rfl, _, _, _, [], _, [], hW', trodAll_mk1 (shut_bool Try.underlying4 _), (trodAll_cons_mk (Below.trod laidOut (by kernel_rfl) (of_decide_eq_true (by kernel_rfl)) k0 bel lt0) (trodAll_cons_mk (Below.trod laidOut (by kernel_rfl) (of_decide_eq_true (by kernel_rfl)) k1 bel lt1) (trodAll_cons_mk (shut_int Try.underlying3 w2) trodAll_mk0))), rfl, bel.frame _, fun h => by cases h⟩

theorem over : Rows.rsDecodesRow.holds Try.pinned (OpenSpec.ofChange Rows.rsDecodesSpec) :=
  OpenClaim.holds_of_wide 4 Try.f4 rfl rfl rfl rfl rfl rfl rfl ⟨rfl, rfl, rfl, rfl, rfl⟩ rfl rfl rfl rfl rfl (by kernel_rfl) Try.func4 (by kernel_rfl)
    (of_decide_eq_true (by kernel_rfl)) (by unfold Func.isWrapper; first | (rw [if_pos (by decide +kernel)]; kernel_rfl) | (rw [if_neg (by decide +kernel)]; exact ⟨rfl, rfl⟩))
    (fun os started H enc _ => lifted os started H enc)

end Go.Proofs.Ytndieloekmibjaa.rsDecodes
namespace Go.Proofs.Ytndieloekmibjaa
/-- The statement. -/
theorem rsDecodes_holds : Rows.RsDecodesSaid := rsDecodes.over
#print axioms rsDecodes_holds
end Go.Proofs.Ytndieloekmibjaa

