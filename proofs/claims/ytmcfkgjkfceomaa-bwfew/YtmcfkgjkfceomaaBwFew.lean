/- For every input BwFew returns true, and every argument reads behind the call as it did before: no condition. -/
import Derived.Test.YtmcfkgjkfceomaaRows
import Derived.ProofKit
import Derived.OpenShut
import Derived.SizedLaws
import Derived.ChangeOld
import Derived.Carry
import Derived.Test.YtmcfkgjkfceomaaLawb
import Derived.Test.YtmcfkgjkfceomaaBwh
namespace Go.Proofs.Ytmcfkgjkfceomaa.bwFew
open Go.ChangeShapes Go.WideShapes Go.ChangeAt Go.RowKit Go.Shelf Gw Pol

theorem own : ownKnob Try.prog.godebug = none := by kernel_rfl
theorem laidOut : laidOutB Try.prog = true := by kernel_rfl
set_option maxRecDepth 100000 in
set_option maxHeartbeats 1000000 in
theorem walk_nat (A0 : Option Addr) (c0 : Nat) (l0 : List Nat) (A1 : Option Addr) (c1 : Nat) (l1 : List Nat) (d e : Nat) (hd : d < 256) (he : e < 256) (w : World) (w0 : In w w.heap.size A0 c0 l0) (s0 : c0 ≤ 140737488351232) (w1 : In w w.heap.size A1 c1 l1) :
    Calls Try.prog 6 #[.slice A0 l0.length c0, .slice A1 l1.length c1, .int .u8 (d : Int), .int .u8 (e : Int)] w fun e w' => e = .returned (.bool true) ∧ Below w.heap.size w w' := by
  have hcap0 := w0.cap
  go_enter Try.func6, Try.ntmps6
  go_wp2_with fail
  refine (new_any _).mono ?_
  rintro en w2 ⟨rfl, hF, hb2⟩
  have HD := Lib.hid (bdecode_any _ A0 A1 c0 c1 l0 l1 (d : Int) (e : Int) w2 hF ((w0.below hb2).more hb2.size) ((w1.below hb2).more hb2.size))
  go_wp2_with fail
  refine HD.out.mono ?_
  by_cases hlen : d + 1 + e ≤ l0.length
  · have hlen2 : ¬ ((l0.length : Int) < (d : Int) + 1 + (e : Int)) := by omega
    rintro en w3 (⟨p, Ap, Aw, cp, cw, rfl, hag, hop, hoj, hb3⟩ | ⟨⟨rfl, hb3⟩, hno⟩)
    · have hB := hb2.trans (hb3.mono hb2.size)
      go_wp2_with fail
      refine (answers_any _).mono ?_
      rintro en w4 ⟨rfl, hb4⟩
      go_wp2
      go_ret
      exact ⟨rfl, hB.trans (hb4.mono hB.size)⟩
    · have hB := hb2.trans (hb3.mono hb2.size)
      go_wp2_with fail
      refine (answers_any _).mono ?_
      rintro en w4 ⟨rfl, hb4⟩
      go_wp2
      go_ret
      exact ⟨rfl, hB.trans (hb4.mono hB.size)⟩
  · rintro en w3 (⟨p, Ap, Aw, cp, cw, rfl, hag, hop, hoj, hb3⟩ | ⟨⟨rfl, hb3⟩, hno⟩)
    · exact (hlen (by have := hag.own; omega)).elim
    · have hlen2 : (l0.length : Int) < (d : Int) + 1 + (e : Int) := by omega
      have hB := hb2.trans (hb3.mono hb2.size)
      go_wp2_with fail
      refine (answers_any _).mono ?_
      rintro en w4 ⟨rfl, hb4⟩
      go_wp2
      go_ret
      exact ⟨rfl, hB.trans (hb4.mono hB.size)⟩
theorem walk (A0 : Option Addr) (c0 : Nat) (l0 : List Nat) (A1 : Option Addr) (c1 : Nat) (l1 : List Nat) (a2 a3 : Int) (w : World) (w0 : In w w.heap.size A0 c0 l0) (s0 : c0 ≤ 140737488351232) (w1 : In w w.heap.size A1 c1 l1) (_s1 : c1 ≤ 140737488351232) (w2 : (Lit.int .u8 a2).wf = true) (w3 : (Lit.int .u8 a3).wf = true) :
    Calls Try.prog 6 #[.slice A0 l0.length c0, .slice A1 l1.length c1, .int .u8 a2, .int .u8 a3] w fun e w' => e = .returned (.bool true) ∧ Below w.heap.size w w' := by
  obtain ⟨h1, h2⟩ := bounds_u8 w2
  obtain ⟨a, rfl⟩ := Int.eq_ofNat_of_zero_le h1
  obtain ⟨h3, h4⟩ := bounds_u8 w3
  obtain ⟨b, rfl⟩ := Int.eq_ofNat_of_zero_le h3
  exact walk_nat A0 c0 l0 A1 c1 l1 a b (by omega) (by omega) w w0 s0 w1

set_option maxRecDepth 100000 in
theorem lifted (os : Os) (started : os.Started) (H : Type) (enc : TypeId × Value → H) :
    ReturnsInHanded {} Try.checked os 6 .any (Rows.bwFewSpec.pre6 enc Try.prog Try.f6 Rows.bwFewRow.domain false) (Rows.bwFewSpec.post enc Try.prog Try.f6 false true false false) := by
  refine returnsInHanded_of_change_sized (C := Try.checked) own started (by kernel_rfl) Try.func6
    (ChangeSpec.witness6 (enc := enc) (C := Try.checked) false ⟨#[], #[.slice none 0 0, .slice none 0 0, .int .u8 0, .int .u8 0], []⟩ 8 (by kernel_rfl) (by kernel_rfl) (by kernel_rfl) (by kernel_rfl)) ?_
  intro W base args ds gs before hval0 hW _hcnd hsz0 _
  have hval : ∀ (j : Nat) t v, Try.f6.params[j]? = some t → args[j]? = some v → Value.okWide Try.prog W .any base t v := hval0
  have hW' := hW
  obtain ⟨p, q, hA0, hV, rfl, _hfz, _hnd⟩ := hW
  have hA : DataW.TrodAll enc Try.prog W 0 (fun _ => true) true Try.f6.params.toList args.toList ds p := hA0
  have hsz : (DataW.weightsEach Try.prog (Try.f6.params.toList ++ Rows.bwFewSpec.plain.varTypes Try.prog) (ds ++ gs)).all (· ≤ reachBytes) = true := hsz0
  rw [Try.params6] at hA hval hsz
  obtain ⟨v0, vs0, d0, ds0, p0, q0, hargs, rfl, rfl, h0, r0⟩ := trodAll_cons hA
  obtain ⟨v1, vs1, d1, ds1, p1, q1, rfl, rfl, rfl, h1, r1⟩ := trodAll_cons r0
  obtain ⟨v2, vs2, d2, ds2, p2, q2, rfl, rfl, rfl, h2, r2⟩ := trodAll_cons r1
  obtain ⟨v3, vs3, d3, ds3, p3, q3, rfl, rfl, rfl, h3, r3⟩ := trodAll_cons r2
  obtain ⟨rfl, rfl, rfl⟩ := trodAll_nil r3
  obtain rfl : args = #[v0, v1, v2, v3] := by cases args; simp_all
  obtain ⟨rfl, rfl⟩ := trodVars_none hV
  have k0 := h0
  have lt0 : ∀ x ∈ p0, x.block < W.heap.size := by obtain ⟨m, hm⟩ := k0; exact DataW.trod_lt m _ _ _ hm
  obtain ⟨A0, c0, l0, rfl, w0, sz0⟩ := open_bytes Try.underlying22 Try.underlying5 (by kernel_rfl) (hval 0 22 v0 rfl rfl) h0
  have s0 := sized_bytes hsz (j := 0) (t := 22) (e := 5) rfl rfl Try.underlying22 (by kernel_rfl) sz0
  have k1 := h1
  have lt1 : ∀ x ∈ p1, x.block < W.heap.size := by obtain ⟨m, hm⟩ := k1; exact DataW.trod_lt m _ _ _ hm
  obtain ⟨A1, c1, l1, rfl, w1, sz1⟩ := open_bytes Try.underlying22 Try.underlying5 (by kernel_rfl) (hval 1 22 v1 rfl rfl) h1
  have s1 := sized_bytes hsz (j := 1) (t := 22) (e := 5) rfl rfl Try.underlying22 (by kernel_rfl) sz1
  obtain ⟨a2, rfl, rfl, rfl, w2⟩ := open_int Try.underlying5 (hval 2 5 v2 rfl rfl) h2
  obtain ⟨a3, rfl, rfl, rfl, w3⟩ := open_int Try.underlying5 (hval 3 5 v3 rfl rfl) h3
  clear hA0 hval0 hsz0 hsz
  refine (walk A0 c0 l0 A1 c1 l1 a2 a3 W w0 s0 w1 s1 w2 w3).mono fun e W' ⟨he, bel⟩ => ?_
  subst he
  exact ⟨_, rfl, _, _, _, [], _, [], hW', trodAll_mk1 (shut_bool Try.underlying4 _), (trodAll_cons_mk (Below.trod laidOut (by kernel_rfl) (of_decide_eq_true (by kernel_rfl)) k0 bel lt0) (trodAll_cons_mk (Below.trod laidOut (by kernel_rfl) (of_decide_eq_true (by kernel_rfl)) k1 bel lt1) (trodAll_cons_mk (shut_int Try.underlying5 w2) (trodAll_cons_mk (shut_int Try.underlying5 w3) trodAll_mk0)))), rfl, bel.frame _, fun h => by cases h⟩

theorem over : Rows.bwFewRow.holds Try.pinned (OpenSpec.ofChange Rows.bwFewSpec) :=
  OpenClaim.holds_of_wide 6 Try.f6 rfl rfl rfl rfl rfl rfl rfl ⟨rfl, rfl, rfl, rfl, rfl⟩ rfl rfl rfl rfl rfl (by kernel_rfl) Try.func6 (by kernel_rfl)
    (of_decide_eq_true (by kernel_rfl)) (by unfold Func.isWrapper; first | (rw [if_pos (by decide +kernel)]; kernel_rfl) | (rw [if_neg (by decide +kernel)]; exact ⟨rfl, rfl⟩))
    (fun os started H enc _ => lifted os started H enc)

end Go.Proofs.Ytmcfkgjkfceomaa.bwFew
namespace Go.Proofs.Ytmcfkgjkfceomaa
/-- The statement. -/
theorem bwFew_holds : Rows.BwFewSaid := bwFew.over
#print axioms bwFew_holds
end Go.Proofs.Ytmcfkgjkfceomaa

