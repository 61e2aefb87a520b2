/- For every input WireWrites returns true, and every argument reads behind the call as it did before, where what comes in is of bulk at most 1048576. -/
import Derived.Test.YtabalhhodcajmaaRows
import Derived.ProofKit
import Derived.OpenShut
import Derived.SizedLaws
import Derived.ChangeOld
import Derived.Carry
import Derived.Test.YtabalhhodcajmaaLawb
import Derived.Test.YtabalhhodcajmaaBulk
import Derived.JoinedCond
import Derived.Test.YtabalhhodcajmaaWik
import Derived.BigQuiet
import Derived.Test.YtabalhhodcajmaaLawr
namespace Go.Proofs.Ytabalhhodcajmaa.wireWrites
open Go.ChangeShapes Go.WideShapes Go.ChangeAt Go.RowKit Go.Shelf Gw Pol Go.BigFrame

theorem own : ownKnob Try.prog.godebug = none := by kernel_rfl
theorem laidOut : laidOutB Try.prog = true := by kernel_rfl
set_option maxRecDepth 100000 in
set_option maxHeartbeats 1000000 in
theorem walk (m0 : Mg) (b0 : Ma) (w : World) (w0 : MgIn w w.heap.size m0 b0) (s0 : m0.sz' ≤ 8000000) :
    Calls Try.prog 3 #[mval m0 b0] w fun e w' => e = .returned (.bool true) ∧ Below w.heap.size w w' := by
  obtain ⟨w1, hw1⟩ : ∃ w1, w1 = w.alloc (.cells (mcs m0 b0).toArray 27) := ⟨_, rfl⟩
  have hb1 : Below w.heap.size w w1 := by rw [hw1]; exact (Below.refl _ _).alloc (Nat.le_refl _) _
  have hs1 : w1.heap.size = w.heap.size + 1 := by rw [hw1]; simp
  have hbx : MBox w1 w.heap.size m0 b0 := by rw [hw1]; exact MBox.new w m0 b0 _
  have HE := Lib.hid (encode_any m0 b0 w1 ((w0.below hb1).more hb1.size) (by omega))
  rw [hw1] at HE
  have HW1 := Lib.hid hw1
  clear hw1
  go_enter Try.func3, Try.ntmps3
  go_wp2_with fail
  refine HE.out.mono ?_
  rintro e w2 ⟨hb2, ⟨ho, A2, N2, c2, rfl, hN2, hown⟩ | ⟨ho, rfl⟩⟩
  · rw [← HW1.out] at hb2 hown
    have hs2 := hb2.size
    have hq2 := hbx.keep (hb2.block _ hbx.lt)
    have HM := Lib.hid (rmsg_any m0 b0 w2 (((w0.below hb1).below (hb2.mono (by omega))).more (by omega)) (by omega))
    have HB2 := Lib.hid (hb1.trans (hb2.mono (by omega)))
    have HOK := Lib.hid ho
    have HN2 := Lib.hid hN2
    have HLE := Lib.hid (show m0.en.length ≤ 140737488355328 by rw [m0.en_len]; omega)
    clear HE hN2 hb1 hb2 hbx ho w0
    have cz0 : w2.cell? ⟨w.heap.size, 0, none⟩ = some (.int .i64 m0.kd) := hq2 0 _ rfl
    have cz1 : w2.cell? ⟨w.heap.size, 1, none⟩ = some (.int .i64 m0.fr) := hq2 1 _ rfl
    have cz2 : w2.cell? ⟨w.heap.size, 2, none⟩ = some (.int .i64 m0.to) := hq2 2 _ rfl
    have cz3 : w2.cell? ⟨w.heap.size, 3, none⟩ = some (.int .i64 m0.se) := hq2 3 _ rfl
    have cz4 : w2.cell? ⟨w.heap.size, 4, none⟩ = some (.int .i64 m0.de) := hq2 4 _ rfl
    have cz5 : w2.cell? ⟨w.heap.size, 5, none⟩ = some (.int .i64 m0.cm) := hq2 5 _ rfl
    have cz6 : w2.cell? ⟨w.heap.size, 6, none⟩ = some (.int .i64 m0.ep) := hq2 6 _ rfl
    have cz7 : w2.cell? ⟨w.heap.size, 7, none⟩ = some (.slice b0.HA b0.HN b0.HC) := hq2 7 _ rfl
    have cz8 : w2.cell? ⟨w.heap.size, 8, none⟩ = some (.string (str m0.id)) := hq2 8 _ rfl
    have cz9 : w2.cell? ⟨w.heap.size, 9, none⟩ = some (.int .i64 m0.sz) := hq2 9 _ rfl
    have cz10 : w2.cell? ⟨w.heap.size, 10, none⟩ = some (.int .i64 m0.so) := hq2 10 _ rfl
    have cz11 : w2.cell? ⟨w.heap.size, 11, none⟩ = some (.int .i64 m0.ta) := hq2 11 _ rfl
    have cz12 : w2.cell? ⟨w.heap.size, 12, none⟩ = some (.slice b0.DA b0.DN b0.DC) := hq2 12 _ rfl
    have cz13 : w2.cell? ⟨w.heap.size, 13, none⟩ = some (.slice b0.PA b0.PN b0.PC) := hq2 13 _ rfl
    have cz14 : w2.cell? ⟨w.heap.size, 14, none⟩ = some (.int .i64 m0.co) := hq2 14 _ rfl
    have cz15 : w2.cell? ⟨w.heap.size, 15, none⟩ = some (.slice b0.QA b0.QN b0.QC) := hq2 15 _ rfl
    go_wp2_with fail
    refine HM.out.mono ?_
    clear cz0 cz1 cz2 cz3 cz4 cz5 cz6 cz7 cz8 cz9 cz10 cz11 cz12 cz13 cz14 cz15 hq2 HM
    rintro e w3 ⟨hb3, A3, N3, c3, r3, rfl, hI3, hN3, hr3⟩
    obtain rfl : r3 = m0.en := hr3 HOK.out
    rw [HOK.out]
    have hs3 := hb3.size
    have hI2 := hown.inn.below hb3
    have HS := Lib.hid (same12_yes A2 A3 N2 c2 N3 c3 m0.en w3 (hI2.sl.more (by omega)) hI3.sl HN2.out hN3)
    have HB3 := Lib.hid (HB2.out.trans (hb3.mono (by have := HB2.out.size; omega)))
    have HD := Lib.hid (decode_any A2 N2 c2 m0.en w3 HN2.out (hI2.more (by omega)) HLE.out)
    have HI3 := Lib.hid hI3
    have HN3 := Lib.hid hN3
    clear hb3 hI3 hN3 hr3 hown hI2
    go_wp2_with fail
    refine HS.out.mono ?_
    rintro e w3' ⟨rfl, h33⟩
    rw [h33]
    clear h33 HS
    go_wp2_with fail
    refine HD.out.mono ?_
    rintro e w4 ⟨hb4, a4, he, hm4, _⟩
    rw [dec_en HOK.out] at he hm4
    subst he
    have hs4 := hb4.size
    obtain ⟨w5, hw5⟩ : ∃ w5, w5 = w4.alloc (.cells (mcs m0 a4).toArray 27) := ⟨_, rfl⟩
    have hb5 : Below w4.heap.size w4 w5 := by rw [hw5]; exact (Below.refl _ _).alloc (Nat.le_refl _) _
    have HM := Lib.hid (rmsg_any m0 a4 w5 ((hm4.below hb5).more hb5.size) (by omega))
    rw [hw5] at HM
    have HW5 := Lib.hid hw5
    have HB5 := Lib.hid ((hb4.trans (hb5.mono hs4)))
    have HB5w := Lib.hid (HB3.out.trans ((hb4.trans (hb5.mono hs4)).mono (by have := HB3.out.size; omega)))
    clear hw5 hm4 hb4 hb5 HD
    go_wp2_with fail
    refine HM.out.mono ?_
    rintro e w6 ⟨hb6, A6, N6, c6, r6, rfl, hI6, hN6, hr6⟩
    rw [← HW5.out] at hb6
    have hr : r6 = m0.en := hr6 HOK.out
    rw [HOK.out]
    have hs6 := hb6.size
    have HB6 := Lib.hid (HB5.out.trans (hb6.mono (by have := HB5.out.size; omega)))
    have HB6w := Lib.hid (HB5w.out.trans (hb6.mono (by have := HB5w.out.size; omega)))
    have HN6 := Lib.hid hN6
    have HI6 := Lib.hid hI6
    have HA := Lib.hid (answers_any w6)
    clear hb6 hI6 hN6 hr6 HM
    go_wp2_with fail
    refine HA.out.mono ?_
    rintro e w7 ⟨rfl, hb7⟩
    have k1 := conv_n (c := c6) ((HI6.out.below hb7).sl) HN6.out
    have k2 := conv_n (c := c3) ((HI3.out.below (HB6.out.trans (hb7.mono (by have := HB6.out.size; omega)))).sl) HN3.out
    rw [hr] at k1
    obtain ⟨S, hS⟩ : ∃ S, S = str m0.en := ⟨_, rfl⟩
    rw [← hS] at k1 k2
    have HB7 := Lib.hid (HB6w.out.trans (hb7.mono (by have := HB6w.out.size; omega)))
    clear hS hb7 HA hr
    go_wp2
    go_ret
    exact ⟨by simp, HB7.out⟩
  · rw [← HW1.out] at hb2
    have hs2 := hb2.size
    have hq2 := hbx.keep (hb2.block _ hbx.lt)
    have HM := Lib.hid (rmsg_any m0 b0 w2 (((w0.below hb1).below (hb2.mono (by omega))).more (by omega)) (by omega))
    have HB2 := Lib.hid (hb1.trans (hb2.mono (by omega)))
    have HOK := Lib.hid ho
    clear HE hb1 hb2 hbx ho w0
    have cz0 : w2.cell? ⟨w.heap.size, 0, none⟩ = some (.int .i64 m0.kd) := hq2 0 _ rfl
    have cz1 : w2.cell? ⟨w.heap.size, 1, none⟩ = some (.int .i64 m0.fr) := hq2 1 _ rfl
    have cz2 : w2.cell? ⟨w.heap.size, 2, none⟩ = some (.int .i64 m0.to) := hq2 2 _ rfl
    have cz3 : w2.cell? ⟨w.heap.size, 3, none⟩ = some (.int .i64 m0.se) := hq2 3 _ rfl
    have cz4 : w2.cell? ⟨w.heap.size, 4, none⟩ = some (.int .i64 m0.de) := hq2 4 _ rfl
    have cz5 : w2.cell? ⟨w.heap.size, 5, none⟩ = some (.int .i64 m0.cm) := hq2 5 _ rfl
    have cz6 : w2.cell? ⟨w.heap.size, 6, none⟩ = some (.int .i64 m0.ep) := hq2 6 _ rfl
    have cz7 : w2.cell? ⟨w.heap.size, 7, none⟩ = some (.slice b0.HA b0.HN b0.HC) := hq2 7 _ rfl
    have cz8 : w2.cell? ⟨w.heap.size, 8, none⟩ = some (.string (str m0.id)) := hq2 8 _ rfl
    have cz9 : w2.cell? ⟨w.heap.size, 9, none⟩ = some (.int .i64 m0.sz) := hq2 9 _ rfl
    have cz10 : w2.cell? ⟨w.heap.size, 10, none⟩ = some (.int .i64 m0.so) := hq2 10 _ rfl
    have cz11 : w2.cell? ⟨w.heap.size, 11, none⟩ = some (.int .i64 m0.ta) := hq2 11 _ rfl
    have cz12 : w2.cell? ⟨w.heap.size, 12, none⟩ = some (.slice b0.DA b0.DN b0.DC) := hq2 12 _ rfl
    have cz13 : w2.cell? ⟨w.heap.size, 13, none⟩ = some (.slice b0.PA b0.PN b0.PC) := hq2 13 _ rfl
    have cz14 : w2.cell? ⟨w.heap.size, 14, none⟩ = some (.int .i64 m0.co) := hq2 14 _ rfl
    have cz15 : w2.cell? ⟨w.heap.size, 15, none⟩ = some (.slice b0.QA b0.QN b0.QC) := hq2 15 _ rfl
    go_wp2_with fail
    refine HM.out.mono ?_
    clear cz0 cz1 cz2 cz3 cz4 cz5 cz6 cz7 cz8 cz9 cz10 cz11 cz12 cz13 cz14 cz15 hq2 HM
    rintro e w3 ⟨hb3, A3, N3, c3, r3, rfl, hI3, hN3, _⟩
    rw [HOK.out]
    have hs3 := hb3.size
    have HS := Lib.hid (same12_no none A3 0 0 N3 c3 [] r3 w3 Sl.nil hI3.sl rfl hN3)
    have HB3 := Lib.hid (HB2.out.trans (hb3.mono (by have := HB2.out.size; omega)))
    have HA := Lib.hid (answers_any w3)
    clear hb3 hI3 hN3
    go_wp2_with fail
    refine HS.out.mono ?_
    rintro e w3' ⟨rfl, h33⟩
    rw [h33]
    clear h33 HS
    go_wp2_with fail
    refine HA.out.mono ?_
    rintro e w4 ⟨rfl, hb4⟩
    have HB4 := Lib.hid (HB3.out.trans (hb4.mono (by have := HB3.out.size; omega)))
    clear hb4 HA
    go_wp2
    go_ret
    exact ⟨by simp, HB4.out⟩

theorem contract (H : Type) (enc : TypeId × Value → H) (W : World) (base : Nat) (args : Array Value) (ds gs : List (DataW H)) (before : List MemPlace)
    (hval : ∀ (j : Nat) t v, Try.f3.params[j]? = some t → args[j]? = some v → Value.okWide Try.prog W .any base t v)
    (hW : DataW.Whole enc Try.prog Try.f3.params.toList Rows.wireWritesSpec.vars false W args.toList ds gs before) (hk : Rows.uptoSmall H (ds ++ gs) = true) :
    Calls Try.prog 3 args W fun e W' => ∃ v, e = .returned v ∧ Rows.wireWritesSpec.post enc Try.prog Try.f3 false true false false W args v W' := by
  have hW' := hW
  obtain ⟨p, q, hA0, hV, rfl, _hfz, _hnd⟩ := hW
  have hA : DataW.TrodAll enc Try.prog W 0 (fun _ => true) true Try.f3.params.toList args.toList ds p := hA0
  rw [Try.params3] at hA hval
  obtain ⟨v0, vs0, d0, ds0, p0, q0, hargs, rfl, rfl, h0, r0⟩ := trodAll_cons hA
  obtain ⟨rfl, rfl, rfl⟩ := trodAll_nil r0
  obtain rfl : args = #[v0] := by cases args; simp_all
  obtain ⟨rfl, rfl⟩ := trodVars_none hV
  simp only [List.append_nil] at hk
  have k0 := h0
  have lt0 : ∀ x ∈ p0, x.block < W.heap.size := by obtain ⟨m, hm⟩ := k0; exact DataW.trod_lt m _ _ _ hm
  obtain ⟨m0, b0, rfl, w0, D0⟩ := open_msg (hval 0 27 v0 rfl rfl) h0
  have s0 := msg_small (bulks.part hk (j := 0) rfl) D0
  clear hA0
  refine (walk m0 b0 W w0 s0).mono fun e W' ⟨he, bel⟩ => ?_
  subst he
  exact ⟨_, rfl, _, _, _, [], _, [], hW', trodAll_mk1 (shut_bool Try.underlying4 _), (trodAll_cons_mk (Below.trod laidOut (by kernel_rfl) (of_decide_eq_true (by kernel_rfl)) k0 bel lt0) trodAll_mk0), rfl, bel.frame _, fun h => by cases h⟩

set_option maxRecDepth 100000 in
theorem lifted (os : Os) (started : os.Started) (H : Type) (enc : TypeId × Value → H) (F : Stop.Interp) :
    ReturnsInHanded {} Try.checked os 3 .any ((Rows.OpenSpec.upto Rows.wireWritesSpec).pre6 enc Try.prog Try.f3 Rows.wireWritesUptoRow.domain false) (((Rows.OpenSpec.upto Rows.wireWritesSpec).at F).post enc Try.prog Try.f3 false true false false) := by
  refine returnsInHanded_of_cond (C := Try.checked) (s := Rows.OpenSpec.upto Rows.wireWritesSpec) (k := Rows.uptoSmall) rfl own started (by kernel_rfl) Try.func3
    (OpenSpec.witness (enc := enc) (C := Try.checked) (s := Rows.OpenSpec.upto Rows.wireWritesSpec) (k := Rows.uptoSmall) rfl false ⟨#[], #[.agg #[.int .i64 0, .int .i64 0, .int .i64 0, .int .i64 0, .int .i64 0, .int .i64 0, .int .i64 0, .slice none 0 0, .string ByteArray.empty, .int .i64 0, .int .i64 0, .int .i64 0, .slice none 0 0, .slice none 0 0, .int .i64 0, .slice none 0 0]], []⟩ 8 (by kernel_rfl) (by kernel_rfl) (by kernel_rfl)
      (x := ([.agg [.lit (.int .i64 0), .lit (.int .i64 0), .lit (.int .i64 0), .lit (.int .i64 0), .lit (.int .i64 0), .lit (.int .i64 0), .lit (.int .i64 0), .nil, .lit (.string []), .lit (.int .i64 0), .lit (.int .i64 0), .lit (.int .i64 0), .nil, .nil, .lit (.int .i64 0), .nil]], [], [])) (by kernel_rfl) rfl (by kernel_rfl)) ?_
  intro W base args ds gs before hval hW _ hk _
  exact contract H enc W base args ds gs before hval hW hk

theorem over : Rows.wireWritesUptoRow.holds Try.pinned (Rows.OpenSpec.upto Rows.wireWritesSpec) :=
  OpenClaim.holds_of_cond 3 Try.f3 rfl rfl rfl rfl rfl rfl rfl ⟨rfl, rfl, rfl, rfl, rfl⟩ rfl rfl rfl rfl rfl (by kernel_rfl) Try.func3 (by kernel_rfl)
    (of_decide_eq_true (by kernel_rfl)) (by unfold Func.isWrapper; first | (rw [if_pos (by decide +kernel)]; kernel_rfl) | (rw [if_neg (by decide +kernel)]; exact ⟨rfl, rfl⟩))
    (fun os started H enc _ F => lifted os started H enc F)

end Go.Proofs.Ytabalhhodcajmaa.wireWrites
namespace Go.Proofs.Ytabalhhodcajmaa
/-- The statement. -/
theorem wireWrites_holds : Rows.WireWritesUptoSaid := wireWrites.over
#print axioms wireWrites_holds
end Go.Proofs.Ytabalhhodcajmaa

