/- For every input SolveRanks returns true, and every argument reads behind the call as it did before: no condition. -/
import Derived.Test.YtkgbmkbbkaifmaaRows
import Derived.ProofKit
import Derived.OpenShut
import Derived.SizedLaws
import Derived.ChangeOld
import Derived.Carry
import Derived.Test.YtkgbmkbbkaifmaaLawb
import Derived.Test.YtkgbmkbbkaifmaaLawm
import Derived.Test.YtkgbmkbbkaifmaaRrb
import Derived.Test.YtkgbmkbbkaifmaaLwa
namespace Go.Proofs.Ytkgbmkbbkaifmaa.solveRanks
open Go.ChangeShapes Go.WideShapes Go.ChangeAt Go.RowKit Go.Shelf Gw Pol

theorem own : ownKnob Try.prog.godebug = none := by kernel_rfl
theorem laidOut : laidOutB Try.prog = true := by kernel_rfl
set_option maxRecDepth 100000 in
set_option maxHeartbeats 2000000 in
theorem walk (A0 : Option Addr) (c0 R0 : Nat) (P0 : Nat → Option Addr) (n0 : Nat → Nat) (l0 : Nat → List Nat) (w : World) (w0 : MIn w w.heap.size A0 c0 R0 P0 n0 l0) (s0 : c0 ≤ 5864062014634) (b0 : ∀ i, BB (l0 i)) :
    Calls Try.prog 4 #[.slice A0 R0 c0] w fun e w' => e = .returned (.bool true) ∧ Below w.heap.size w w' := by
  have hcap := w0.cap
  have AN := Lib.hid answers_any
  by_cases hsm : R0 ≤ 30 ∧ ∀ i, i < R0 → (l0 i).length ≤ 30
  · have HS := Lib.hid (lsmall_any A0 c0 R0 _ P0 n0 l0 w w0 (by omega) true ⟨fun _ => hsm, fun _ => rfl⟩)
    obtain ⟨hR, hl30⟩ := hsm
    have HL := Lib.hid hl30
    clear hl30
    by_cases hr : ∀ i, i < R0 → (l0 i).length = (l0 0).length
    · have HLR := Lib.hid (fun W (h : MIn W w.heap.size A0 c0 R0 P0 n0 l0) => lright_any A0 c0 R0 _ P0 n0 l0 W h (by omega) true ⟨fun _ => hr, fun _ => rfl⟩)
      obtain ⟨n, hn, h0, hn30⟩ : ∃ n, (∀ i, i < R0 → (l0 i).length = n) ∧ (R0 = 0 → n = 0) ∧ n ≤ 30 := by
        by_cases h : R0 = 0
        · exact ⟨0, fun i hi => by omega, fun _ => rfl, by omega⟩
        · exact ⟨(l0 0).length, hr, fun e => absurd e h, HL.out 0 (by omega)⟩
      have HH := Lib.hid hn
      have H0 := Lib.hid h0
      clear hr hn h0
      go_enter Try.func4, Try.ntmps4
      go_wp2_with (first
        | (go_at_call 7; refine HS.out.mono ?_; rintro e w1 ⟨rfl, rfl⟩)
        | (go_at_call 10; refine (new_any _).mono ?_; rintro e w2 ⟨rfl, hF, hB⟩; have m2 := w0.below hB; have s2 := hB.size)
        | (go_at_call 15; refine (rank_any _ A0 c0 R0 n P0 n0 l0 w2 hF (m2.more s2) HH.out (by omega) (by omega) b0).mono ?_; rintro e w3 ⟨rfl, hB3⟩; have hB3' := hB.trans (hB3.mono s2); have m3 := w0.below hB3'; have s3 := hB3'.size)
        | (go_at_call 11; refine (HLR.out _ m3).mono ?_; rintro e w4 ⟨rfl, q, rfl⟩)
        | (go_at_call 12; refine (rreduce_any A0 c0 R0 n P0 n0 l0 (w3.drewN q) ((m3.drewN q).more s3) HH.out H0.out (by omega) (by omega) b0).mono ?_; rintro e w5 ⟨Am, Ao, cm, co', rfl, hO, hB5⟩; have hB5' := hB3'.trans ((drewN_below (n := q) hB5).mono s3); have s5 := hB5'.size)
        | (go_at_call 8; refine (AN.out _).mono ?_; rintro e w6 ⟨rfl, hB6⟩))
      go_ret
      exact ⟨rfl, hB5'.trans (hB6.mono s5)⟩
    · have HLR := Lib.hid (fun W (h : MIn W w.heap.size A0 c0 R0 P0 n0 l0) => lright_any A0 c0 R0 _ P0 n0 l0 W h (by omega) false ⟨fun h => Bool.noConfusion h, fun h => absurd h hr⟩)
      have HRB := Lib.hid (fun bf W (h : MIn W w.heap.size A0 c0 R0 P0 n0 l0) => rank_bad bf A0 c0 R0 P0 n0 l0 W _ h (by omega) hr)
      clear hr
      go_enter Try.func4, Try.ntmps4
      go_wp2_with (first
        | (go_at_call 7; refine HS.out.mono ?_; rintro e w1 ⟨rfl, rfl⟩)
        | (go_at_call 10; refine (new_any _).mono ?_; rintro e w2 ⟨rfl, hF, hB⟩; have m2 := w0.below hB; have s2 := hB.size)
        | (go_at_call 15; refine (HRB.out _ w2 m2).mono ?_; rintro e w3 ⟨rfl, rfl⟩)
        | (go_at_call 11; refine (HLR.out _ m2).mono ?_; rintro e w4 ⟨rfl, q, rfl⟩)
        | (go_at_call 8; refine (AN.out _).mono ?_; rintro e w6 ⟨rfl, hB6⟩))
      go_ret
      exact ⟨rfl, hB.trans ((drewN_below (n := q) hB6).mono s2)⟩
  · have HS := Lib.hid (lsmall_any A0 c0 R0 _ P0 n0 l0 w w0 (by omega) false ⟨fun h => Bool.noConfusion h, fun h => absurd h hsm⟩)
    clear hsm
    go_enter Try.func4, Try.ntmps4
    go_wp2_with (first
      | (go_at_call 7; refine HS.out.mono ?_; rintro e w1 ⟨rfl, rfl⟩)
      | (go_at_call 8; refine (AN.out _).mono ?_; rintro e w6 ⟨rfl, hB6⟩))
    go_ret
    exact ⟨rfl, hB6⟩

set_option maxRecDepth 100000 in
theorem lifted (os : Os) (started : os.Started) (H : Type) (enc : TypeId × Value → H) :
    ReturnsInHanded {} Try.checked os 4 .any (Rows.solveRanksSpec.pre6 enc Try.prog Try.f4 Rows.solveRanksRow.domain false) (Rows.solveRanksSpec.post enc Try.prog Try.f4 false true false false) := by
  refine returnsInHanded_of_change_sized (C := Try.checked) own started (by kernel_rfl) Try.func4
    (ChangeSpec.witness6 (enc := enc) (C := Try.checked) false ⟨#[], #[.slice none 0 0], []⟩ 8 (by kernel_rfl) (by kernel_rfl) (by kernel_rfl) (by kernel_rfl)) ?_
  intro W base args ds gs before hval0 hW _hcnd hsz0 _
  have hval : ∀ (j : Nat) t v, Try.f4.params[j]? = some t → args[j]? = some v → Value.okWide Try.prog W .any base t v := hval0
  have hW' := hW
  obtain ⟨p, q, hA0, hV, rfl, _hfz, _hnd⟩ := hW
  have hA : DataW.TrodAll enc Try.prog W 0 (fun _ => true) true Try.f4.params.toList args.toList ds p := hA0
  have hsz : (DataW.weightsEach Try.prog (Try.f4.params.toList ++ Rows.solveRanksSpec.plain.varTypes Try.prog) (ds ++ gs)).all (· ≤ reachBytes) = true := hsz0
  rw [Try.params4] at hA hval hsz
  obtain ⟨v0, vs0, d0, ds0, p0, q0, hargs, rfl, rfl, h0, r0⟩ := trodAll_cons hA
  obtain ⟨rfl, rfl, rfl⟩ := trodAll_nil r0
  obtain rfl : args = #[v0] := by cases args; simp_all
  obtain ⟨rfl, rfl⟩ := trodVars_none hV
  have k0 := h0
  have lt0 : ∀ x ∈ p0, x.block < W.heap.size := by obtain ⟨m, hm⟩ := k0; exact DataW.trod_lt m _ _ _ hm
  obtain ⟨A0, c0, R0, P0, n0, l0, rfl, w0, b0, sz0⟩ := open_rows Try.underlying22 Try.underlying23 Try.underlying5 (by kernel_rfl) (by kernel_rfl) (hval 0 22 v0 rfl rfl) h0
  have s0 := sized_rows hsz (j := 0) (t := 22) (e := 23) rfl rfl Try.underlying22 (by kernel_rfl) sz0
  clear hA0 hval0 hsz0 hsz
  refine (walk A0 c0 R0 P0 n0 l0 W w0 s0 b0).mono fun e W' ⟨he, bel⟩ => ?_
  subst he
  exact ⟨_, rfl, _, _, _, [], _, [], hW', trodAll_mk1 (shut_bool Try.underlying4 _), (trodAll_cons_mk (Below.trod laidOut (by kernel_rfl) (of_decide_eq_true (by kernel_rfl)) k0 bel lt0) trodAll_mk0), rfl, bel.frame _, fun h => by cases h⟩

theorem over : Rows.solveRanksRow.holds Try.pinned (OpenSpec.ofChange Rows.solveRanksSpec) :=
  OpenClaim.holds_of_wide 4 Try.f4 rfl rfl rfl rfl rfl rfl rfl ⟨rfl, rfl, rfl, rfl, rfl⟩ rfl rfl rfl rfl rfl (by kernel_rfl) Try.func4 (by kernel_rfl)
    (of_decide_eq_true (by kernel_rfl)) (by unfold Func.isWrapper; first | (rw [if_pos (by decide +kernel)]; kernel_rfl) | (rw [if_neg (by decide +kernel)]; exact ⟨rfl, rfl⟩))
    (fun os started H enc _ => lifted os started H enc)

end Go.Proofs.Ytkgbmkbbkaifmaa.solveRanks
namespace Go.Proofs.Ytkgbmkbbkaifmaa
/-- The statement. -/
theorem solveRanks_holds : Rows.SolveRanksSaid := solveRanks.over
#print axioms solveRanks_holds
end Go.Proofs.Ytkgbmkbbkaifmaa

