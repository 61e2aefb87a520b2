/- For every input PolyValues returns true, and every argument reads behind the call as it did before: no condition. -/
import Derived.Test.YtiefcfjepcgklaaRows
import Derived.ProofKit
import Derived.OpenShut
import Derived.SizedLaws
import Derived.ChangeOld
import Derived.Carry
import Derived.Test.YtiefcfjepcgklaaLawb
import Derived.Test.YtiefcfjepcgklaaPlw
namespace Go.Proofs.Ytiefcfjepcgklaa.polyValues
open Go.ChangeShapes Go.WideShapes Go.ChangeAt Go.RowKit Go.Shelf Gw Pol

theorem own : ownKnob Try.prog.godebug = none := by kernel_rfl
theorem laidOut : laidOutB Try.prog = true := by kernel_rfl
set_option maxRecDepth 100000 in
set_option maxHeartbeats 1000000 in
theorem walk_nat (A : Option Addr) (c : Nat) (l : List Nat) (x : Nat) (hx : x < 256) (w : World) (hI : In w w.heap.size A c l) (hs : c ≤ 140737488351232) :
    Calls Try.prog 3 #[.slice A l.length c, .int .u8 (x : Int)] w fun e w' => e = .returned (.bool true) ∧ Below w.heap.size w w' := by
  have hcap := hI.cap
  have hcm : l.length ≤ 140737488355328 := by omega
  obtain ⟨n, hn⟩ : ∃ n, n = (tr l).length := ⟨_, rfl⟩
  have hnl : n ≤ l.length := by rw [hn]; exact tr_len l
  have HN := Lib.hid hn
  clear hn
  go_enter Try.func3, Try.ntmps3
  go_wp2_with fail
  refine (answers_any _).mono ?_
  rintro e w1 ⟨rfl, hB⟩
  have hI1 := hI.below hB
  go_wp2_with fail
  refine (degree_any A c l w1 _ hI1 hcm).mono ?_
  rintro e w2 ⟨rfl, rfl⟩
  rw [← HN.out]
  go_wp2_with fail
  refine (trim_any A c l w1 _ hI1 hB.size hcm).mono ?_
  rintro e w3 ⟨A3, c3, rfl, _, hB3⟩
  rw [← HN.out]
  have hB3' := hB.trans (hB3.mono hB.size)
  clear hB3
  go_wp2_with fail
  refine (new_any _).mono ?_
  rintro e w4 ⟨rfl, hF, hB4⟩
  have hB4' := hB3'.trans (hB4.mono hB3'.size)
  have hI4 := hI.below hB4'
  clear hB4
  go_wp2_with fail
  refine (peval_any _ A c l x hx _ hF (hI4.more hB4'.size) hcm).mono ?_
  rintro e w5 ⟨rfl, hB5⟩
  have hB5' := hB4'.trans (hB5.mono hB4'.size)
  have hI5 := hI.below hB5'
  clear hB5
  go_wp2_with fail
  refine (reval_any A c l x hx w5 _ hI5 hcm).mono ?_
  rintro e w6 ⟨rfl, rfl⟩
  go_wp2
  go_ret
  exact ⟨rfl, hB5'⟩
theorem walk (A0 : Option Addr) (c0 : Nat) (l0 : List Nat) (a1 : Int) (w : World) (w0 : In w w.heap.size A0 c0 l0) (s0 : c0 ≤ 140737488351232) (w1 : (Lit.int .u8 a1).wf = true) :
    Calls Try.prog 3 #[.slice A0 l0.length c0, .int .u8 a1] w fun e w' => e = .returned (.bool true) ∧ Below w.heap.size w w' := by
  obtain ⟨h1, h2⟩ := bounds_u8 w1
  obtain ⟨a, rfl⟩ := Int.eq_ofNat_of_zero_le h1
  exact walk_nat A0 c0 l0 a (by omega) w w0 s0

set_option maxRecDepth 100000 in
theorem lifted (os : Os) (started : os.Started) (H : Type) (enc : TypeId × Value → H) :
    ReturnsInHanded {} Try.checked os 3 .any (Rows.polyValuesSpec.pre6 enc Try.prog Try.f3 Rows.polyValuesRow.domain false) (Rows.polyValuesSpec.post enc Try.prog Try.f3 false true false false) := by
  refine returnsInHanded_of_change_sized (C := Try.checked) own started (by kernel_rfl) Try.func3
    (ChangeSpec.witness6 (enc := enc) (C := Try.checked) false ⟨#[], #[.slice none 0 0, .int .u8 0], []⟩ 8 (by kernel_rfl) (by kernel_rfl) (by kernel_rfl) (by kernel_rfl)) ?_
  intro W base args ds gs before hval0 hW _hcnd hsz0 _
  have hval : ∀ (j : Nat) t v, Try.f3.params[j]? = some t → args[j]? = some v → Value.okWide Try.prog W .any base t v := hval0
  have hW' := hW
  obtain ⟨p, q, hA0, hV, rfl, _hfz, _hnd⟩ := hW
  have hA : DataW.TrodAll enc Try.prog W 0 (fun _ => true) true Try.f3.params.toList args.toList ds p := hA0
  have hsz : (DataW.weightsEach Try.prog (Try.f3.params.toList ++ Rows.polyValuesSpec.plain.varTypes Try.prog) (ds ++ gs)).all (· ≤ reachBytes) = true := hsz0
  rw [Try.params3] at hA hval hsz
  obtain ⟨v0, vs0, d0, ds0, p0, q0, hargs, rfl, rfl, h0, r0⟩ := trodAll_cons hA
  obtain ⟨v1, vs1, d1, ds1, p1, q1, rfl, rfl, rfl, h1, r1⟩ := trodAll_cons r0
  obtain ⟨rfl, rfl, rfl⟩ := trodAll_nil r1
  obtain rfl : args = #[v0, v1] := by cases args; simp_all
  obtain ⟨rfl, rfl⟩ := trodVars_none hV
  have k0 := h0
  have lt0 : ∀ x ∈ p0, x.block < W.heap.size := by obtain ⟨m, hm⟩ := k0; exact DataW.trod_lt m _ _ _ hm
  obtain ⟨A0, c0, l0, rfl, w0, sz0⟩ := open_bytes Try.underlying22 Try.underlying5 (by kernel_rfl) (hval 0 22 v0 rfl rfl) h0
  have s0 := sized_bytes hsz (j := 0) (t := 22) (e := 5) rfl rfl Try.underlying22 (by kernel_rfl) sz0
  obtain ⟨a1, rfl, rfl, rfl, w1⟩ := open_int Try.underlying5 (hval 1 5 v1 rfl rfl) h1
  clear hA0 hval0 hsz0 hsz
  refine (walk A0 c0 l0 a1 W w0 s0 w1).mono fun e W' ⟨he, bel⟩ => ?_
  subst he
  exact ⟨_, rfl, _, _, _, [], _, [], hW', trodAll_mk1 (shut_bool Try.underlying4 _), (trodAll_cons_mk (Below.trod laidOut (by kernel_rfl) (of_decide_eq_true (by kernel_rfl)) k0 bel lt0) (trodAll_cons_mk (shut_int Try.underlying5 w1) trodAll_mk0)), rfl, bel.frame _, fun h => by cases h⟩

theorem over : Rows.polyValuesRow.holds Try.pinned (OpenSpec.ofChange Rows.polyValuesSpec) :=
  OpenClaim.holds_of_wide 3 Try.f3 rfl rfl rfl rfl rfl rfl rfl ⟨rfl, rfl, rfl, rfl, rfl⟩ rfl rfl rfl rfl rfl (by kernel_rfl) Try.func3 (by kernel_rfl)
    (of_decide_eq_true (by kernel_rfl)) (by unfold Func.isWrapper; first | (rw [if_pos (by decide +kernel)]; kernel_rfl) | (rw [if_neg (by decide +kernel)]; exact ⟨rfl, rfl⟩))
    (fun os started H enc _ => lifted os started H enc)

end Go.Proofs.Ytiefcfjepcgklaa.polyValues
namespace Go.Proofs.Ytiefcfjepcgklaa
/-- The statement. -/
theorem polyValues_holds : Rows.PolyValuesSaid := polyValues.over
#print axioms polyValues_holds
end Go.Proofs.Ytiefcfjepcgklaa

