/- For every input WireReads returns true, and every argument reads behind the call as it did before: no condition. -/
import Derived.Test.YtabalhhodcajmaaRows
import Derived.ProofKit
import Derived.OpenShut
import Derived.SizedLaws
import Derived.ChangeOld
import Derived.Carry
import Derived.Test.YtabalhhodcajmaaLawb
import Derived.Test.YtabalhhodcajmaaWik
import Derived.BigQuiet
namespace Go.Proofs.Ytabalhhodcajmaa.wireReads
open Go.ChangeShapes Go.WideShapes Go.ChangeAt Go.RowKit Go.Shelf Gw Pol Go.BigFrame

theorem own : ownKnob Try.prog.godebug = none := by kernel_rfl
theorem laidOut : laidOutB Try.prog = true := by kernel_rfl
set_option maxRecDepth 100000 in
set_option maxHeartbeats 1000000 in
theorem walk (A0 : Option Addr) (c0 : Nat) (l0 : List Nat) (w : World) (w0 : In w w.heap.size A0 c0 l0) (s0 : c0 ≤ 140737488351232) :
    Calls Try.prog 4 #[.slice A0 l0.length c0] w fun e w' => e = .returned (.bool true) ∧ Below w.heap.size w w' := by
  obtain ⟨N, hN⟩ : ∃ N, N = l0.length := ⟨_, rfl⟩
  rw [← hN]
  have hbb := w0.bb
  have hcap := w0.cap
  have HN := Lib.hid hN
  have HD := Lib.hid (decode_any A0 N c0 l0 w hN w0 (by omega))
  clear hN
  go_enter Try.func4, Try.ntmps4
  go_wp2_with fail
  refine HD.out.mono ?_
  rintro e w2 ⟨hb2, a2, he, hm2, _⟩
  obtain ⟨m, hm⟩ : ∃ m, m = (dec l0).1 := ⟨_, rfl⟩
  obtain ⟨ok, hok⟩ : ∃ ok, ok = (dec l0).2 := ⟨_, rfl⟩
  rw [← hm, ← hok] at he
  rw [← hm] at hm2
  subst he
  have hno : ok = false → m = Mg.none := fun h => by rw [hm]; exact dec_no (by rw [← hok]; exact h)
  have hyes : ok = true → m.en = l0 := fun h => by rw [hm]; exact (dec_yes hbb (by rw [← hok]; exact h)).2
  have hmok : m.ok = true := by rw [hm]; exact dec_ok hbb
  have hsz : m.sz' ≤ 140737488355326 := by
    have := dec_sz hbb
    rw [← hm] at this
    have := HN.out
    omega
  clear hm hok HD
  have hs2 := hb2.size
  obtain ⟨w3, hw3⟩ : ∃ w3, w3 = w2.alloc (.cells (mcs m a2).toArray 27) := ⟨_, rfl⟩
  have hb3 : Below w2.heap.size w2 w3 := by rw [hw3]; exact (Below.refl _ _).alloc (Nat.le_refl _) _
  have hs3 := hb3.size
  have HM := Lib.hid (rmsg_any m a2 w3 ((hm2.below hb3).more hs3) hsz)
  rw [hw3] at HM
  have HW3 := Lib.hid hw3
  have HB3 := Lib.hid ((hb2.trans (hb3.mono hs2)))
  have HNO := Lib.hid hno
  have HYES := Lib.hid hyes
  have HOK := Lib.hid hmok
  clear hw3 hm2 hb2 hb3 hno hyes hmok hsz
  go_wp2_with fail
  refine HM.out.mono ?_
  rintro e w4 ⟨hb4, A4, N4, c4, r4, rfl, hI4, hN4, hr4⟩
  rw [← HW3.out] at hb4
  have hs4 := hb4.size
  have HB4 := Lib.hid (HB3.out.trans (hb4.mono (by omega)))
  have hr : r4 = m.en := hr4 HOK.out
  have HN4 := Lib.hid hN4
  rw [HOK.out]
  clear hb4 hr4 hN4 HM
  cases ok with
  | false =>
    have hmn := HNO.out rfl
    rw [hmn] at hr
    have HM0 := Lib.hid (rmsg_any Mg.none Ma.none w4 (MgIn.none _ _) (by decide))
    go_wp2_with fail
    refine HM0.out.mono ?_
    rintro e w5 ⟨hb5, A5, N5, c5, r5, rfl, hI5, hN5, hr5⟩
    have hrr : r5 = r4 := (hr5 none_ok).trans hr.symm
    subst hrr
    have hs5 := hb5.size
    have HB5 := Lib.hid (HB4.out.trans (hb5.mono (by omega)))
    have HI4 := Lib.hid (hI4.below hb5)
    have HI5 := Lib.hid hI5
    have HN5 := Lib.hid hN5
    have HA := Lib.hid (answers_any w5)
    clear hb5 hI4 hI5 hN5 hr5 hr HM0 hmn
    go_wp2_with fail
    refine HA.out.mono ?_
    rintro e w6 ⟨rfl, hb6⟩
    have k1 := conv_n (c := c4) ((HI4.out.below (hb6.mono (by omega))).sl) HN4.out
    have k2 := conv_n (c := c5) ((HI5.out.below hb6).sl) HN5.out
    obtain ⟨S, hS⟩ : ∃ S, S = str r5 := ⟨_, rfl⟩
    rw [← hS] at k1 k2
    have HB6 := Lib.hid (HB5.out.trans (hb6.mono (by omega)))
    clear hS hb6 HA
    go_wp2
    go_ret
    exact ⟨by simp, HB6.out⟩
  | true =>
    have hml := HYES.out rfl
    rw [hml] at hr
    subst hr
    have HA := Lib.hid (answers_any w4)
    go_wp2_with fail
    refine HA.out.mono ?_
    rintro e w6 ⟨rfl, hb6⟩
    have k1 := conv_n (c := c4) ((hI4.below hb6).sl) HN4.out
    have HB6 := Lib.hid (HB4.out.trans (hb6.mono (by omega)))
    have k2 := conv_n (c := c0) ((w0.below HB6.out).sl) HN.out
    obtain ⟨S, hS⟩ : ∃ S, S = str r4 := ⟨_, rfl⟩
    rw [← hS] at k1 k2
    clear hS hb6 HA hml hI4
    go_wp2
    go_ret
    exact ⟨by simp, HB6.out⟩

set_option maxRecDepth 100000 in
theorem lifted (os : Os) (started : os.Started) (H : Type) (enc : TypeId × Value → H) :
    ReturnsInHanded {} Try.checked os 4 .any (Rows.wireReadsSpec.pre6 enc Try.prog Try.f4 Rows.wireReadsRow.domain false) (Rows.wireReadsSpec.post enc Try.prog Try.f4 false true false false) := by
  refine returnsInHanded_of_change_sized (C := Try.checked) own started (by kernel_rfl) Try.func4
    (ChangeSpec.witness6 (enc := enc) (C := Try.checked) false ⟨#[], #[.slice none 0 0], []⟩ 8 (by kernel_rfl) (by kernel_rfl) (by kernel_rfl) (by kernel_rfl)) ?_
  intro W base args ds gs before hval0 hW _hcnd hsz0 _
  have hval : ∀ (j : Nat) t v, Try.f4.params[j]? = some t → args[j]? = some v → Value.okWide Try.prog W .any base t v := hval0
  have hW' := hW
  obtain ⟨p, q, hA0, hV, rfl, _hfz, _hnd⟩ := hW
  have hA : DataW.TrodAll enc Try.prog W 0 (fun _ => true) true Try.f4.params.toList args.toList ds p := hA0
  have hsz : (DataW.weightsEach Try.prog (Try.f4.params.toList ++ Rows.wireReadsSpec.plain.varTypes Try.prog) (ds ++ gs)).all (· ≤ reachBytes) = true := hsz0
  rw [Try.params4] at hA hval hsz
  obtain ⟨v0, vs0, d0, ds0, p0, q0, hargs, rfl, rfl, h0, r0⟩ := trodAll_cons hA
  obtain ⟨rfl, rfl, rfl⟩ := trodAll_nil r0
  obtain rfl : args = #[v0] := by cases args; simp_all
  obtain ⟨rfl, rfl⟩ := trodVars_none hV
  have k0 := h0
  have lt0 : ∀ x ∈ p0, x.block < W.heap.size := by obtain ⟨m, hm⟩ := k0; exact DataW.trod_lt m _ _ _ hm
  obtain ⟨A0, c0, l0, rfl, w0, sz0⟩ := open_bytes Try.underlying25 Try.underlying5 (by kernel_rfl) (hval 0 25 v0 rfl rfl) h0
  have s0 := sized_bytes hsz (j := 0) (t := 25) (e := 5) rfl rfl Try.underlying25 (by kernel_rfl) sz0
  clear hA0 hval0 hsz0 hsz
  refine (walk A0 c0 l0 W w0 s0).mono fun e W' ⟨he, bel⟩ => ?_
  subst he
  exact ⟨_, rfl, _, _, _, [], _, [], hW', trodAll_mk1 (shut_bool Try.underlying4 _), (trodAll_cons_mk (Below.trod laidOut (by kernel_rfl) (of_decide_eq_true (by kernel_rfl)) k0 bel lt0) trodAll_mk0), rfl, bel.frame _, fun h => by cases h⟩

theorem over : Rows.wireReadsRow.holds Try.pinned (OpenSpec.ofChange Rows.wireReadsSpec) :=
  OpenClaim.holds_of_wide 4 Try.f4 rfl rfl rfl rfl rfl rfl rfl ⟨rfl, rfl, rfl, rfl, rfl⟩ rfl rfl rfl rfl rfl (by kernel_rfl) Try.func4 (by kernel_rfl)
    (of_decide_eq_true (by kernel_rfl)) (by unfold Func.isWrapper; first | (rw [if_pos (by decide +kernel)]; kernel_rfl) | (rw [if_neg (by decide +kernel)]; exact ⟨rfl, rfl⟩))
    (fun os started H enc _ => lifted os started H enc)

end Go.Proofs.Ytabalhhodcajmaa.wireReads
namespace Go.Proofs.Ytabalhhodcajmaa
/-- The statement. -/
theorem wireReads_holds : Rows.WireReadsSaid := wireReads.over
#print axioms wireReads_holds
end Go.Proofs.Ytabalhhodcajmaa

