/- For every input StripeSplits returns true, and every argument reads behind the call as it did before, where what comes in is of bulk at most 1048576. -/
import Derived.Test.YtnpjncbdmgdjnaaRows
import Derived.ProofKit
import Derived.OpenShut
import Derived.SizedLaws
import Derived.ChangeOld
import Derived.Carry
import Derived.Test.YtnpjncbdmgdjnaaLawb
import Derived.Test.YtnpjncbdmgdjnaaBulk
import Derived.JoinedCond
import Derived.Test.YtnpjncbdmgdjnaaSta
import Derived.Test.YtnpjncbdmgdjnaaSsm
import Derived.Test.YtnpjncbdmgdjnaaRsp
namespace Go.Proofs.Ytnpjncbdmgdjnaa.stripeSplits
open Go.ChangeShapes Go.WideShapes Go.ChangeAt Go.RowKit Go.Shelf Gw Pol

theorem own : ownKnob Try.prog.godebug = none := by kernel_rfl
theorem laidOut : laidOutB Try.prog = true := by kernel_rfl
set_option maxRecDepth 100000 in
set_option maxHeartbeats 2000000 in
theorem walk (A0 : Option Addr) (c0 : Nat) (l0 : List Nat) (a1 : Int) (w : World) (w0 : In w w.heap.size A0 c0 l0) (s0 : c0 ≤ 1048576) (w1' : (Lit.int .u8 a1).wf = true) :
    Calls Try.prog 3 #[.slice A0 l0.length c0, .int .u8 a1] w fun e w' => e = .returned (.bool true) ∧ Below w.heap.size w w' := by
  have hb1 := bounds_u8 w1'
  obtain ⟨k, rfl⟩ : ∃ k : Nat, a1 = k := ⟨a1.toNat, by omega⟩
  clear w1'
  have hcap := w0.cap
  obtain ⟨N, hN⟩ : ∃ N, N = l0.length := ⟨_, rfl⟩
  rw [← hN]
  have hNb : N ≤ 1048576 := by omega
  have hwk : IntKind.i64.wrap (k : Int) = (k : Int) := by rw [IntKind.wrap_i64]; omega
  have HN := Lib.hid hN
  have HCOL := Lib.hid (fun w => scols_any (N : Int) (k : Int) (by simp [Lit.wf, IntKind.min, IntKind.max, IntKind.signed, IntKind.bits]; omega) (by simp [Lit.wf, IntKind.min, IntKind.max, IntKind.signed, IntKind.bits]; omega) w)
  rw [Sp.colsZ_nat] at HCOL
  by_cases hk0 : k = 0
  · subst hk0
    rw [Sp.cnt_none] at HCOL
    have HSP := Lib.hid (fun w h => ssplit_any A0 c0 N 0 l0 w HN.out h (by omega) (by omega))
    rw [Sp.cnt_none] at HSP
    clear hN hcap
    go_enter Try.func3, Try.ntmps3
    go_wp2_with fail
    refine (answers_any w).mono ?_
    rintro e w1 ⟨rfl, hb⟩
    go_wp2_with fail
    refine (HSP.out w1 ((w0.below hb).more hb.size)).mono ?_
    rintro e w2 ⟨A2, c2, pa, cp, rfl, hC⟩
    have hB2 := hb.trans (hC.bel.mono hb.size)
    clear hC
    go_wp2_with fail
    refine (HCOL.out w2).mono ?_
    rintro e w3 ⟨rfl, hb3⟩
    go_wp2
    go_ret
    exact ⟨rfl, hB2.trans (hb3.mono hB2.size)⟩
  obtain ⟨R, hR⟩ : ∃ R, R = Sp.cnt N k := ⟨_, rfl⟩
  rw [← hR] at HCOL
  have HSP := Lib.hid (ssplit_any A0 c0 N k l0 w HN.out w0 (by omega) (by omega))
  rw [← hR] at HSP
  have hRN : R ≤ N := by rw [hR]; exact Sp.cnt_le N k
  have hRk : R * k ≤ 2097152 := by rw [hR]; have := Sp.cnt_room (n := N) (k := k) (by omega); omega
  have HR := Lib.hid hR
  have HRK := Lib.hid hRk
  have HCC := Lib.hid (show (Sp.cat (Sp.col l0 k) R).take N = l0 by rw [hR, hN]; exact Sp.cat_col (by omega))
  obtain ⟨σ, hσ⟩ : ∃ σ, σ = str l0 := ⟨_, rfl⟩
  have HSG := Lib.hid hσ
  have hkz : ((k : Int) == 0) = false := beq_eq_false_iff_ne.2 (by omega)
  have hkp : 0 < k := by omega
  have HRS := Lib.hid (fun w h => rsplit_any A0 c0 N k l0 w HN.out h hkp (by omega) hNb)
  rw [← hR] at HRS
  clear hN hcap hR hRk hσ
  go_enter Try.func3, Try.ntmps3
  go_wp2_with fail
  refine HSP.out.mono ?_
  rintro e w1 ⟨A1, c1, pa, cp, rfl, hC⟩
  have hM1 := hC.min
  have hB1 := hC.bel
  clear hC
  go_wp2_with fail
  refine (sjoin_yes A1 c1 R k N pa cp (Sp.col l0 k) w1 hM1 HR.out hkp (by omega) (fun i _ => Sp.col_len _ _ _) HRK.out).mono ?_
  rintro e w2 ⟨A2, c2, rfl, hI2, hb2⟩
  rw [HCC.out] at hI2
  have hM2 := (hM1.below hb2).more hb2.size
  have hB2 := hB1.trans (hb2.mono hB1.size)
  clear hM1 hB1 hb2
  go_wp2_with fail
  refine (answers_any w2).mono ?_
  rintro e w3 ⟨rfl, hb3⟩
  have hM3 := (hM2.below hb3).more hb3.size
  have hI3 := (hI2.below hb3).more hb3.size
  have hB3 := hB2.trans (hb3.mono hB2.size)
  clear hM2 hB2 hb3 hI2
  go_wp2_with fail
  refine (HRS.out w3 ((w0.below hB3).more hB3.size)).mono ?_
  rintro e w4 ⟨v4, pa4, cp4, rfl, hG⟩
  obtain ⟨A4, c4, hv4, hM4⟩ := hG.min (fun i _ => Sp.col_len _ _ _)
  subst hv4
  have hb4 := hG.bel
  have hM3' := (hM3.below hb4).more hb4.size
  have hI4 := (hI3.below hb4).more hb4.size
  have hB4 := hB3.trans (hb4.mono hB3.size)
  clear hM3 hB3 hb4 hI3 hG
  go_wp2_with fail
  refine (same_yes A1 A4 c1 c4 R pa pa4 cp cp4 (Sp.col l0 k) (Sp.col l0 k) w4 hM3' hM4 (fun _ _ => rfl) (by omega)).mono ?_
  rintro e w5 ⟨rfl, hb5⟩
  have hI5 := (hI4.below hb5).more hb5.size
  have hB5 := hB4.trans (hb5.mono hB4.size)
  clear hM3' hM4 hB4 hb5 hI4
  go_wp2_with fail
  refine (HCOL.out w5).mono ?_
  rintro e w6 ⟨rfl, hb6⟩
  have hI6 := (hI5.below hb6).more hb6.size
  have hB6 := hB5.trans (hb6.mono hB5.size)
  have hcv := conv_sl (P := Try.prog) hI6.sl Try.underlying22 Try.underlying5 Try.underlying9 c2
  have hcv' := conv_sl (P := Try.prog) (w0.below hB6).sl Try.underlying22 Try.underlying5 Try.underlying9 c0
  rw [← HN.out, ← HSG.out] at hcv hcv'
  clear hB5 hb6 hI5 hI6
  go_wp2
  go_ret
  exact ⟨rfl, hB6⟩

theorem contract (H : Type) (enc : TypeId × Value → H) (W : World) (base : Nat) (args : Array Value) (ds gs : List (DataW H)) (before : List MemPlace)
    (hval : ∀ (j : Nat) t v, Try.f3.params[j]? = some t → args[j]? = some v → Value.okWide Try.prog W .any base t v)
    (hW : DataW.Whole enc Try.prog Try.f3.params.toList Rows.stripeSplitsSpec.vars false W args.toList ds gs before) (hk : Rows.uptoSmall H (ds ++ gs) = true) :
    Calls Try.prog 3 args W fun e W' => ∃ v, e = .returned v ∧ Rows.stripeSplitsSpec.post enc Try.prog Try.f3 false true false false W args v W' := by
  have hW' := hW
  obtain ⟨p, q, hA0, hV, rfl, _hfz, _hnd⟩ := hW
  have hA : DataW.TrodAll enc Try.prog W 0 (fun _ => true) true Try.f3.params.toList args.toList ds p := hA0
  rw [Try.params3] at hA hval
  obtain ⟨v0, vs0, d0, ds0, p0, q0, hargs, rfl, rfl, h0, r0⟩ := trodAll_cons hA
  obtain ⟨v1, vs1, d1, ds1, p1, q1, rfl, rfl, rfl, h1, r1⟩ := trodAll_cons r0
  obtain ⟨rfl, rfl, rfl⟩ := trodAll_nil r1
  obtain rfl : args = #[v0, v1] := by cases args; simp_all
  obtain ⟨rfl, rfl⟩ := trodVars_none hV
  simp only [List.append_nil] at hk
  have k0 := h0
  have lt0 : ∀ x ∈ p0, x.block < W.heap.size := by obtain ⟨m, hm⟩ := k0; exact DataW.trod_lt m _ _ _ hm
  obtain ⟨A0, c0, l0, rfl, w0, sz0⟩ := open_bytes Try.underlying22 Try.underlying5 (by kernel_rfl) (hval 0 22 v0 rfl rfl) h0
  have s0 := bulks.bytes_small (bulks.part hk (j := 0) rfl) sz0
  obtain ⟨a1, rfl, rfl, rfl, w1⟩ := open_int Try.underlying5 (hval 1 5 v1 rfl rfl) h1
  clear hA0
  refine (walk A0 c0 l0 a1 W w0 s0 w1).mono fun e W' ⟨he, bel⟩ => ?_
  subst he
  exact ⟨_, rfl, _, _, _, [], _, [], hW', trodAll_mk1 (shut_bool Try.underlying4 _), (trodAll_cons_mk (Below.trod laidOut (by kernel_rfl) (of_decide_eq_true (by kernel_rfl)) k0 bel lt0) (trodAll_cons_mk (shut_int Try.underlying5 w1) trodAll_mk0)), rfl, bel.frame _, fun h => by cases h⟩

set_option maxRecDepth 100000 in
theorem lifted (os : Os) (started : os.Started) (H : Type) (enc : TypeId × Value → H) (F : Stop.Interp) :
    ReturnsInHanded {} Try.checked os 3 .any ((Rows.OpenSpec.upto Rows.stripeSplitsSpec).pre6 enc Try.prog Try.f3 Rows.stripeSplitsUptoRow.domain false) (((Rows.OpenSpec.upto Rows.stripeSplitsSpec).at F).post enc Try.prog Try.f3 false true false false) := by
  refine returnsInHanded_of_cond (C := Try.checked) (s := Rows.OpenSpec.upto Rows.stripeSplitsSpec) (k := Rows.uptoSmall) rfl own started (by kernel_rfl) Try.func3
    (OpenSpec.witness (enc := enc) (C := Try.checked) (s := Rows.OpenSpec.upto Rows.stripeSplitsSpec) (k := Rows.uptoSmall) rfl false ⟨#[], #[.slice none 0 0, .int .u8 0], []⟩ 8 (by kernel_rfl) (by kernel_rfl) (by kernel_rfl)
      (x := ([.nil, .lit (.int .u8 0)], [], [])) (by kernel_rfl) rfl (by kernel_rfl)) ?_
  intro W base args ds gs before hval hW _ hk _
  exact contract H enc W base args ds gs before hval hW hk

theorem over : Rows.stripeSplitsUptoRow.holds Try.pinned (Rows.OpenSpec.upto Rows.stripeSplitsSpec) :=
  OpenClaim.holds_of_cond 3 Try.f3 rfl rfl rfl rfl rfl rfl rfl ⟨rfl, rfl, rfl, rfl, rfl⟩ rfl rfl rfl rfl rfl (by kernel_rfl) Try.func3 (by kernel_rfl)
    (of_decide_eq_true (by kernel_rfl)) (by unfold Func.isWrapper; first | (rw [if_pos (by decide +kernel)]; kernel_rfl) | (rw [if_neg (by decide +kernel)]; exact ⟨rfl, rfl⟩))
    (fun os started H enc _ F => lifted os started H enc F)

end Go.Proofs.Ytnpjncbdmgdjnaa.stripeSplits
namespace Go.Proofs.Ytnpjncbdmgdjnaa
/-- The statement. -/
theorem stripeSplits_holds : Rows.StripeSplitsUptoSaid := stripeSplits.over
#print axioms stripeSplits_holds
end Go.Proofs.Ytnpjncbdmgdjnaa

