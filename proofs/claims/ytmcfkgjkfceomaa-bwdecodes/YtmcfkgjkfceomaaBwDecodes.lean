/- For every input BwDecodes returns true, and every argument reads behind the call as it did before: no condition. -/
import Derived.Test.YtmcfkgjkfceomaaRows
import Derived.ProofKit
import Derived.OpenShut
import Derived.SizedLaws
import Derived.ChangeOld
import Derived.Carry
import Derived.Test.YtmcfkgjkfceomaaLawb
import Derived.Test.YtmcfkgjkfceomaaBwh
import Derived.Test.YtmcfkgjkfceomaaAgr
namespace Go.Proofs.Ytmcfkgjkfceomaa.bwDecodes
open Go.ChangeShapes Go.WideShapes Go.ChangeAt Go.RowKit Go.Shelf Gw Pol

theorem own : ownKnob Try.prog.godebug = none := by kernel_rfl
theorem laidOut : laidOutB Try.prog = true := by kernel_rfl
set_option maxRecDepth 100000 in
set_option maxHeartbeats 4000000 in
theorem walk (A0 : Option Addr) (c0 : Nat) (l0 : List Nat) (A1 : Option Addr) (c1 : Nat) (l1 : List Nat) (d e : Int) (w : World) (w0 : In w w.heap.size A0 c0 l0) (_s0 : c0 ≤ 140737488351232) (w1 : In w w.heap.size A1 c1 l1) (_s1 : c1 ≤ 140737488351232) (_w2 : (Lit.int .i64 d).wf = true) (_w3 : (Lit.int .i64 e).wf = true) :
    Calls Try.prog 3 #[.slice A0 l0.length c0, .slice A1 l1.length c1, .int .i64 d, .int .i64 e] w fun e w' => e = .returned (.bool true) ∧ Below w.heap.size w w' := by
  clear _w2 _w3 _s0 _s1
  by_cases hA : 9 < l0.length
  · go_enter Try.func3, Try.ntmps3
    go_wp2_with fail
    refine (answers_any _).mono ?_
    rintro en w4 ⟨rfl, hb4⟩
    go_wp2
    go_ret
    exact ⟨rfl, hb4⟩
  by_cases hA' : 9 < l1.length
  · go_enter Try.func3, Try.ntmps3
    go_wp2_with fail
    refine (answers_any _).mono ?_
    rintro en w4 ⟨rfl, hb4⟩
    go_wp2
    go_ret
    exact ⟨rfl, hb4⟩
  have HX := Lib.hid w0.bb
  have HY := Lib.hid w1.bb
  go_enter Try.func3, Try.ntmps3
  go_wp2_with fail
  refine (new_any _).mono ?_
  rintro en w2 ⟨rfl, hF, hb2⟩
  have HD := Lib.hid (bdecode_any _ A0 A1 c0 c1 l0 l1 d e w2 hF ((w0.below hb2).more hb2.size) ((w1.below hb2).more hb2.size))
  go_wp2_with fail
  refine HD.out.mono ?_
  clear HD hF
  rintro en w3 (⟨p, Ap, Aw, cp, cw, rfl, hag, hop, hoj, hb3⟩ | ⟨⟨rfl, hb3⟩, hno⟩)
  · have hB3 := hb2.trans (hb3.mono hb2.size)
    have hd0 := hag.d0
    have he0 := hag.e0
    have hd1 := hag.d1
    have he1 := hag.e1
    obtain ⟨D, rfl⟩ : ∃ D : Nat, d = (D : Int) := ⟨d.toNat, by omega⟩
    obtain ⟨E, rfl⟩ : ∃ E : Nat, e = (E : Int) := ⟨e.toNat, by omega⟩
    have hmost := hag.most
    have hown := hag.own
    have hwag := wrTo_agr p l0 l1 l0.length
    have hlen : l0.length = l1.length := hag.len
    have hne : (((l0.length : Int)) != ((l1.length : Int))) = false := by rw [bne_eq_false_iff_eq]; omega
    have HUB := Lib.hid (show unB l0 = true from decide_eq_true hag.un)
    have HAGD := Lib.hid hag
    have HLEN := Lib.hid hlen
    clear hag hb2 hb3 hlen
    have HU := Lib.hid (unlike_any A0 c0 l0 w3 _ ((w0.below hB3).more hB3.size) (by omega))
    rw [HUB.out] at HU
    go_wp2_with fail
    refine HU.out.mono ?_
    rintro en w4 ⟨rfl, mm, hw4⟩
    have hB4 : Below w.heap.size w w4 := by rw [hw4]; exact Gw.Below.drewN hB3 mm
    have hDn : ¬ ((D : Int) < 0) := by omega
    have hEn : ¬ ((E : Int) < 0) := by omega
    have hDm : ¬ ((255 : Int) < (D : Int)) := by omega
    have hEm : ¬ ((255 : Int) < (E : Int)) := by omega
    obtain ⟨T, hT⟩ : ∃ T, T = D + 1 + E := ⟨_, rfl⟩
    obtain ⟨U, hU⟩ : ∃ U, U = l0.length - E := ⟨_, rfl⟩
    have hsb : (l0.length : Int) - (E : Int) = (U : Int) := by omega
    have had : (D : Int) + 1 + (E : Int) = (T : Int) := by omega
    have hln : ¬ ((l0.length : Int) < (T : Int)) := by omega
    have HTT := Lib.hid hT
    have HUU := Lib.hid hU
    have hop4 := (show Gw.Own w4 w2.heap.size 5 Ap cp p by rw [hw4]; exact hop.drewN mm)
    have hoj4 := (show OwnJ w4 w2.heap.size 3 Aw cw (wrTo p l0 l1 l0.length) by rw [hw4]; exact hoj.drewN mm)
    clear hop hoj hw4 HU hT hU
    rcases (by omega : T < U ∨ U ≤ T) with hlt | hlt
    · have hlt2 : (T : Int) < (U : Int) := by omega
      have HGR := Lib.hid (ragreed_any A0 A1 c0 c1 l0 l1 D (U) w4 ((w0.below hB4).more hB4.size) ((w1.below hB4).more hB4.size) HLEN.out (by omega) (by omega))
      go_wp2_with fail
      refine HGR.out.mono ?_
      rintro en w5 ⟨⟨r, Ar, cr, hr, rfl, hge, hor⟩ | ⟨rfl, hall⟩, hb5⟩
      · have hB5 := hB4.trans (hb5.mono hB4.size)
        have hok := pthr_ok (ys := l1) hr
        have hwr := wrTo_agr (pthr l0 l1 r) l0 l1 l0.length
        have hT := HTT.out
        have hU := HUU.out
        have hpe : p = pthr l0 l1 r := HAGD.out.alone HX.out ⟨hok.1, hok.2.1, HLEN.out, by omega, HAGD.out.un, by omega, by omega, by omega, by omega, by omega, by omega, by omega⟩
        have hpl : p.length ≤ 256 := by have := HAGD.out.deg; omega
        rw [← hpe] at hor ⊢
        have hop5 := hop4.kept hb5
        have hoj5 := hoj4.kept hb5
        clear hge hok hwr hpe hr hb5 hop4 hoj4 hT hU
        obtain ⟨wl, hwl⟩ : ∃ wl, wl = (wrTo p l0 l1 l0.length).length := ⟨_, rfl⟩
        rw [← hwl]
        rw [← hwl] at hmost hown hwag
        have HWL := Lib.hid hwl
        clear hwl
        go_wp2_with fail
        refine (answers_any _).mono ?_
        rintro en w6 ⟨rfl, hb6⟩
        have hB6 := hB5.trans (hb6.mono hB5.size)
        have hop6 := hop5.kept hb6
        have hoj6 := hoj5.kept hb6
        have hor6 := hor.kept hb6
        clear hop5 hoj5 hor hb6
        have HS := Lib.hid (same_any Ap Ar cp cr p p w6 _ _ hop6.inn hor6.inn)
        rw [decide_eq_true (rfl : p = p)] at HS
        go_wp2_with fail
        refine HS.out.mono ?_
        rintro en w7 ⟨rfl, rfl⟩
        have HW := Lib.hid (rwrong_any Ar A0 A1 cr c0 c1 p l0 l1 w6 hor6.inn ((w0.below hB6).more hB6.size) ((w1.below hB6).more hB6.size) (by have := HLEN.out; omega) (by omega) (by omega))
        rw [← HWL.out] at HW
        clear HS
        go_wp2_with fail
        refine HW.out.mono ?_
        rintro en w8 ⟨A8, c8, rfl, ho8, hb8⟩
        have hB8 := hB6.trans (hb8.mono hB6.size)
        have HSI := Lib.hid (sameInts_any Aw A8 cw c8 (wrTo p l0 l1 l0.length) (wrTo p l0 l1 l0.length) w8 (hoj6.kept hb8).inn ho8.inn (by rw [← HWL.out]; omega))
        rw [← HWL.out, decide_eq_true (rfl : wrTo p l0 l1 l0.length = wrTo p l0 l1 l0.length)] at HSI
        clear HW
        go_wp2_with fail
        refine HSI.out.mono ?_
        rintro en w9 ⟨rfl, m2, rfl⟩
        go_wp2
        go_ret
        exact ⟨rfl, Gw.Below.drewN hB8 m2⟩
      · exfalso
        have hT := HTT.out
        have hU := HUU.out
        obtain ⟨r, hr, hre⟩ := pick_finds (s := D + 1) HAGD.out.bb HX.out HY.out HAGD.out.un (by have := HAGD.out.deg; omega) (by omega)
        have := hall r hr
        rw [hre, HAGD.out.tr_] at this
        omega
    · have hlt2 : ¬ ((T : Int) < (U : Int)) := by omega
      have HGR := Lib.hid (ragreed_any A0 A1 c0 c1 l0 l1 D (T) w4 ((w0.below hB4).more hB4.size) ((w1.below hB4).more hB4.size) HLEN.out (by omega) (by omega))
      go_wp2_with fail
      refine HGR.out.mono ?_
      rintro en w5 ⟨⟨r, Ar, cr, hr, rfl, hge, hor⟩ | ⟨rfl, hall⟩, hb5⟩
      · have hB5 := hB4.trans (hb5.mono hB4.size)
        have hok := pthr_ok (ys := l1) hr
        have hwr := wrTo_agr (pthr l0 l1 r) l0 l1 l0.length
        have hT := HTT.out
        have hU := HUU.out
        have hpe : p = pthr l0 l1 r := HAGD.out.alone HX.out ⟨hok.1, hok.2.1, HLEN.out, by omega, HAGD.out.un, by omega, by omega, by omega, by omega, by omega, by omega, by omega⟩
        have hpl : p.length ≤ 256 := by have := HAGD.out.deg; omega
        rw [← hpe] at hor ⊢
        have hop5 := hop4.kept hb5
        have hoj5 := hoj4.kept hb5
        clear hge hok hwr hpe hr hb5 hop4 hoj4 hT hU
        obtain ⟨wl, hwl⟩ : ∃ wl, wl = (wrTo p l0 l1 l0.length).length := ⟨_, rfl⟩
        rw [← hwl]
        rw [← hwl] at hmost hown hwag
        have HWL := Lib.hid hwl
        clear hwl
        go_wp2_with fail
        refine (answers_any _).mono ?_
        rintro en w6 ⟨rfl, hb6⟩
        have hB6 := hB5.trans (hb6.mono hB5.size)
        have hop6 := hop5.kept hb6
        have hoj6 := hoj5.kept hb6
        have hor6 := hor.kept hb6
        clear hop5 hoj5 hor hb6
        have HS := Lib.hid (same_any Ap Ar cp cr p p w6 _ _ hop6.inn hor6.inn)
        rw [decide_eq_true (rfl : p = p)] at HS
        go_wp2_with fail
        refine HS.out.mono ?_
        rintro en w7 ⟨rfl, rfl⟩
        have HW := Lib.hid (rwrong_any Ar A0 A1 cr c0 c1 p l0 l1 w6 hor6.inn ((w0.below hB6).more hB6.size) ((w1.below hB6).more hB6.size) (by have := HLEN.out; omega) (by omega) (by omega))
        rw [← HWL.out] at HW
        clear HS
        go_wp2_with fail
        refine HW.out.mono ?_
        rintro en w8 ⟨A8, c8, rfl, ho8, hb8⟩
        have hB8 := hB6.trans (hb8.mono hB6.size)
        have HSI := Lib.hid (sameInts_any Aw A8 cw c8 (wrTo p l0 l1 l0.length) (wrTo p l0 l1 l0.length) w8 (hoj6.kept hb8).inn ho8.inn (by rw [← HWL.out]; omega))
        rw [← HWL.out, decide_eq_true (rfl : wrTo p l0 l1 l0.length = wrTo p l0 l1 l0.length)] at HSI
        clear HW
        go_wp2_with fail
        refine HSI.out.mono ?_
        rintro en w9 ⟨rfl, m2, rfl⟩
        go_wp2
        go_ret
        exact ⟨rfl, Gw.Below.drewN hB8 m2⟩
      · exfalso
        have hT := HTT.out
        have hU := HUU.out
        obtain ⟨r, hr, hre⟩ := pick_finds (s := D + 1) HAGD.out.bb HX.out HY.out HAGD.out.un (by have := HAGD.out.deg; omega) (by omega)
        have := hall r hr
        rw [hre, HAGD.out.tr_] at this
        omega
  · have hB3 := hb2.trans (hb3.mono hb2.size)
    clear hb2 hb3
    by_cases hlen : l0.length = l1.length
    · have hne : (((l0.length : Int)) != ((l1.length : Int))) = false := by rw [bne_eq_false_iff_eq]; omega
      have HLEN := Lib.hid hlen
      clear hlen
      cases hu : unB l0 with
      | false =>
        have HUB := Lib.hid hu
        clear hu
        have HU := Lib.hid (unlike_any A0 c0 l0 w3 _ ((w0.below hB3).more hB3.size) (by omega))
        rw [HUB.out] at HU
        go_wp2_with fail
        refine HU.out.mono ?_
        rintro en w4 ⟨rfl, mm, hw4⟩
        have hB4 : Below w.heap.size w w4 := by rw [hw4]; exact Gw.Below.drewN hB3 mm
        clear hw4
        go_wp2_with fail
        refine (answers_any _).mono ?_
        rintro en w5 ⟨rfl, hb5⟩
        go_wp2
        go_ret
        exact ⟨rfl, hB4.trans (hb5.mono hB4.size)⟩
      | true =>
        have HUB := Lib.hid hu
        clear hu
        have HU := Lib.hid (unlike_any A0 c0 l0 w3 _ ((w0.below hB3).more hB3.size) (by omega))
        rw [HUB.out] at HU
        go_wp2_with fail
        refine HU.out.mono ?_
        rintro en w4 ⟨rfl, mm, hw4⟩
        have hB4 : Below w.heap.size w w4 := by rw [hw4]; exact Gw.Below.drewN hB3 mm
        clear hw4
        by_cases hd0 : d < 0
        ·
          go_wp2_with fail
          refine (answers_any _).mono ?_
          rintro en w5 ⟨rfl, hb5⟩
          go_wp2
          go_ret
          exact ⟨rfl, hB4.trans (hb5.mono hB4.size)⟩
        by_cases he0 : e < 0
        ·
          go_wp2_with fail
          refine (answers_any _).mono ?_
          rintro en w5 ⟨rfl, hb5⟩
          go_wp2
          go_ret
          exact ⟨rfl, hB4.trans (hb5.mono hB4.size)⟩
        by_cases hd1 : 255 < d
        ·
          go_wp2_with fail
          refine (answers_any _).mono ?_
          rintro en w5 ⟨rfl, hb5⟩
          go_wp2
          go_ret
          exact ⟨rfl, hB4.trans (hb5.mono hB4.size)⟩
        by_cases he1 : 255 < e
        ·
          go_wp2_with fail
          refine (answers_any _).mono ?_
          rintro en w5 ⟨rfl, hb5⟩
          go_wp2
          go_ret
          exact ⟨rfl, hB4.trans (hb5.mono hB4.size)⟩
        obtain ⟨D, rfl⟩ : ∃ D : Nat, d = (D : Int) := ⟨d.toNat, by omega⟩
        obtain ⟨E, rfl⟩ : ∃ E : Nat, e = (E : Int) := ⟨e.toNat, by omega⟩
        by_cases hfew : l0.length < D + 1 + E
        · have hfew2 : (l0.length : Int) < (D : Int) + 1 + (E : Int) := by omega
          go_wp2_with fail
          refine (answers_any _).mono ?_
          rintro en w5 ⟨rfl, hb5⟩
          go_wp2
          go_ret
          exact ⟨rfl, hB4.trans (hb5.mono hB4.size)⟩
        have hDn : ¬ ((D : Int) < 0) := by omega
        have hEn : ¬ ((E : Int) < 0) := by omega
        have hDm : ¬ ((255 : Int) < (D : Int)) := by omega
        have hEm : ¬ ((255 : Int) < (E : Int)) := by omega
        obtain ⟨T, hT⟩ : ∃ T, T = D + 1 + E := ⟨_, rfl⟩
        obtain ⟨U, hU⟩ : ∃ U, U = l0.length - E := ⟨_, rfl⟩
        have hsb : (l0.length : Int) - (E : Int) = (U : Int) := by omega
        have had : (D : Int) + 1 + (E : Int) = (T : Int) := by omega
        have hln : ¬ ((l0.length : Int) < (T : Int)) := by omega
        have HTT := Lib.hid hT
        have HUU := Lib.hid hU
        have HNO := Lib.hid hno
        clear HU hno hd0 he0 hd1 he1 hT hU
        rcases (by omega : T < U ∨ U ≤ T) with hlt | hlt
        · have hlt2 : (T : Int) < (U : Int) := by omega
          have HGR := Lib.hid (ragreed_any A0 A1 c0 c1 l0 l1 D (U) w4 ((w0.below hB4).more hB4.size) ((w1.below hB4).more hB4.size) HLEN.out (by omega) (by omega))
          go_wp2_with fail
          refine HGR.out.mono ?_
          rintro en w5 ⟨⟨r, Ar, cr, hr, rfl, hge, hor⟩ | ⟨rfl, hall⟩, hb5⟩
          · exfalso
            have hT := HTT.out
            have hU := HUU.out
            have hok := pthr_ok (ys := l1) hr
            have hwr := wrTo_agr (pthr l0 l1 r) l0 l1 l0.length
            exact HNO.out _ ⟨hok.1, hok.2.1, HLEN.out, by omega, of_decide_eq_true HUB.out, by omega, by omega, by omega, by omega, by omega, by omega, by omega⟩
          · have hB5 := hB4.trans (hb5.mono hB4.size)
            go_wp2_with fail
            refine (answers_any _).mono ?_
            rintro en w6 ⟨rfl, hb6⟩
            go_wp2
            go_ret
            exact ⟨rfl, hB5.trans (hb6.mono hB5.size)⟩
        · have hlt2 : ¬ ((T : Int) < (U : Int)) := by omega
          have HGR := Lib.hid (ragreed_any A0 A1 c0 c1 l0 l1 D (T) w4 ((w0.below hB4).more hB4.size) ((w1.below hB4).more hB4.size) HLEN.out (by omega) (by omega))
          go_wp2_with fail
          refine HGR.out.mono ?_
          rintro en w5 ⟨⟨r, Ar, cr, hr, rfl, hge, hor⟩ | ⟨rfl, hall⟩, hb5⟩
          · exfalso
            have hT := HTT.out
            have hU := HUU.out
            have hok := pthr_ok (ys := l1) hr
            have hwr := wrTo_agr (pthr l0 l1 r) l0 l1 l0.length
            exact HNO.out _ ⟨hok.1, hok.2.1, HLEN.out, by omega, of_decide_eq_true HUB.out, by omega, by omega, by omega, by omega, by omega, by omega, by omega⟩
          · have hB5 := hB4.trans (hb5.mono hB4.size)
            go_wp2_with fail
            refine (answers_any _).mono ?_
            rintro en w6 ⟨rfl, hb6⟩
            go_wp2
            go_ret
            exact ⟨rfl, hB5.trans (hb6.mono hB5.size)⟩
    · have hne : (((l0.length : Int)) != ((l1.length : Int))) = true := by rw [bne_iff_ne]; omega
      go_wp2_with fail
      refine (answers_any _).mono ?_
      rintro en w5 ⟨rfl, hb5⟩
      go_wp2
      go_ret
      exact ⟨rfl, hB3.trans (hb5.mono hB3.size)⟩

set_option maxRecDepth 100000 in
theorem lifted (os : Os) (started : os.Started) (H : Type) (enc : TypeId × Value → H) :
    ReturnsInHanded {} Try.checked os 3 .any (Rows.bwDecodesSpec.pre6 enc Try.prog Try.f3 Rows.bwDecodesRow.domain false) (Rows.bwDecodesSpec.post enc Try.prog Try.f3 false true false false) := by
  refine returnsInHanded_of_change_sized (C := Try.checked) own started (by kernel_rfl) Try.func3
    (ChangeSpec.witness6 (enc := enc) (C := Try.checked) false ⟨#[], #[.slice none 0 0, .slice none 0 0, .int .i64 0, .int .i64 0], []⟩ 8 (by kernel_rfl) (by kernel_rfl) (by kernel_rfl) (by kernel_rfl)) ?_
  intro W base args ds gs before hval0 hW _hcnd hsz0 _
  have hval : ∀ (j : Nat) t v, Try.f3.params[j]? = some t → args[j]? = some v → Value.okWide Try.prog W .any base t v := hval0
  have hW' := hW
  obtain ⟨p, q, hA0, hV, rfl, _hfz, _hnd⟩ := hW
  have hA : DataW.TrodAll enc Try.prog W 0 (fun _ => true) true Try.f3.params.toList args.toList ds p := hA0
  have hsz : (DataW.weightsEach Try.prog (Try.f3.params.toList ++ Rows.bwDecodesSpec.plain.varTypes Try.prog) (ds ++ gs)).all (· ≤ reachBytes) = true := hsz0
  rw [Try.params3] at hA hval hsz
  obtain ⟨v0, vs0, d0, ds0, p0, q0, hargs, rfl, rfl, h0, r0⟩ := trodAll_cons hA
  obtain ⟨v1, vs1, d1, ds1, p1, q1, rfl, rfl, rfl, h1, r1⟩ := trodAll_cons r0
  obtain ⟨v2, vs2, d2, ds2, p2, q2, rfl, rfl, rfl, h2, r2⟩ := trodAll_cons r1
  obtain ⟨v3, vs3, d3, ds3, p3, q3, rfl, rfl, rfl, h3, r3⟩ := trodAll_cons r2
  obtain ⟨rfl, rfl, rfl⟩ := trodAll_nil r3
  obtain rfl : args = #[v0, v1, v2, v3] := by cases args; simp_all
  obtain ⟨rfl, rfl⟩ := trodVars_none hV
  have k0 := h0
  have lt0 : ∀ x ∈ p0, x.block < W.heap.size := by obtain ⟨m, hm⟩ := k0; exact DataW.trod_lt m _ _ _ hm
  obtain ⟨A0, c0, l0, rfl, w0, sz0⟩ := open_bytes Try.underlying22 Try.underlying5 (by kernel_rfl) (hval 0 22 v0 rfl rfl) h0
  have s0 := sized_bytes hsz (j := 0) (t := 22) (e := 5) rfl rfl Try.underlying22 (by kernel_rfl) sz0
  have k1 := h1
  have lt1 : ∀ x ∈ p1, x.block < W.heap.size := by obtain ⟨m, hm⟩ := k1; exact DataW.trod_lt m _ _ _ hm
  obtain ⟨A1, c1, l1, rfl, w1, sz1⟩ := open_bytes Try.underlying22 Try.underlying5 (by kernel_rfl) (hval 1 22 v1 rfl rfl) h1
  have s1 := sized_bytes hsz (j := 1) (t := 22) (e := 5) rfl rfl Try.underlying22 (by kernel_rfl) sz1
  obtain ⟨a2, rfl, rfl, rfl, w2⟩ := open_int Try.underlying3 (hval 2 3 v2 rfl rfl) h2
  obtain ⟨a3, rfl, rfl, rfl, w3⟩ := open_int Try.underlying3 (hval 3 3 v3 rfl rfl) h3
  clear hA0 hval0 hsz0 hsz
  refine (walk A0 c0 l0 A1 c1 l1 a2 a3 W w0 s0 w1 s1 w2 w3).mono fun e W' ⟨he, bel⟩ => ?_
  subst he
  exact ⟨_, rfl, _, _, _, [], _, [], hW', trodAll_mk1 (shut_bool Try.underlying4 _), (trodAll_cons_mk (Below.trod laidOut (by kernel_rfl) (of_decide_eq_true (by kernel_rfl)) k0 bel lt0) (trodAll_cons_mk (Below.trod laidOut (by kernel_rfl) (of_decide_eq_true (by kernel_rfl)) k1 bel lt1) (trodAll_cons_mk (shut_int Try.underlying3 w2) (trodAll_cons_mk (shut_int Try.underlying3 w3) trodAll_mk0)))), rfl, bel.frame _, fun h => by cases h⟩

theorem over : Rows.bwDecodesRow.holds Try.pinned (OpenSpec.ofChange Rows.bwDecodesSpec) :=
  OpenClaim.holds_of_wide 3 Try.f3 rfl rfl rfl rfl rfl rfl rfl ⟨rfl, rfl, rfl, rfl, rfl⟩ rfl rfl rfl rfl rfl (by kernel_rfl) Try.func3 (by kernel_rfl)
    (of_decide_eq_true (by kernel_rfl)) (by unfold Func.isWrapper; first | (rw [if_pos (by decide +kernel)]; kernel_rfl) | (rw [if_neg (by decide +kernel)]; exact ⟨rfl, rfl⟩))
    (fun os started H enc _ => lifted os started H enc)

end Go.Proofs.Ytmcfkgjkfceomaa.bwDecodes
namespace Go.Proofs.Ytmcfkgjkfceomaa
/-- The statement. -/
theorem bwDecodes_holds : Rows.BwDecodesSaid := bwDecodes.over
#print axioms bwDecodes_holds
end Go.Proofs.Ytmcfkgjkfceomaa

