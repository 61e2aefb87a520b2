/- For every input WireOwn returns true, and every argument reads behind the call as it did before, where what comes in is of bulk at most 1048576. -/
import Derived.Test.YtabalhhodcajmaaRows
import Derived.ProofKit
import Derived.OpenShut
import Derived.SizedLaws
import Derived.ChangeOld
import Derived.Carry
import Derived.Test.YtabalhhodcajmaaLawb
import Derived.Test.YtabalhhodcajmaaBulk
import Derived.JoinedCond
import Derived.Test.YtabalhhodcajmaaWik
import Derived.BigQuiet
import Derived.Test.YtabalhhodcajmaaLawr
namespace Go.Proofs.Ytabalhhodcajmaa.wireOwn
open Go.ChangeShapes Go.WideShapes Go.ChangeAt Go.RowKit Go.Shelf Gw Pol Go.BigFrame

theorem own : ownKnob Try.prog.godebug = none := by kernel_rfl
theorem laidOut : laidOutB Try.prog = true := by kernel_rfl
/-- What the loop of WireOwn has made. -/
def WoRel (w5 : World) (base g N c : Nat) (i : Value) (wr : World) : Prop := ∃ (j : Nat) (l' : List Nat), j ≤ N ∧ i = .int .i64 (j : Int) ∧ N = l'.length ∧ Gw.Own wr base 5 (some ⟨g, 0, none⟩) c l' ∧ w5.grownBy wr (some g)
set_option maxRecDepth 100000 in
set_option maxHeartbeats 2000000 in
theorem walk (m0 : Mg) (b0 : Ma) (w : World) (w0 : MgIn w w.heap.size m0 b0) (s0 : m0.sz' ≤ 8000000) :
    Calls Try.prog 7 #[mval m0 b0] w fun e w' => e = .returned (.bool true) ∧ Below w.heap.size w w' := by
  obtain ⟨w1, hw1⟩ : ∃ w1, w1 = w.alloc (.cells (mcs m0 b0).toArray 27) := ⟨_, rfl⟩
  have hb1 : Below w.heap.size w w1 := by rw [hw1]; exact (Below.refl _ _).alloc (Nat.le_refl _) _
  have hs1 : w1.heap.size = w.heap.size + 1 := by rw [hw1]; simp
  have hbx : MBox w1 w.heap.size m0 b0 := by rw [hw1]; exact MBox.new w m0 b0 _
  have HE := Lib.hid (encode_any m0 b0 w1 ((w0.below hb1).more hb1.size) (by omega))
  rw [hw1] at HE
  have HW1 := Lib.hid hw1
  clear hw1
  go_enter Try.func7, Try.ntmps7
  go_wp2_with fail
  refine HE.out.mono ?_
  rintro e w2 ⟨hb2, ⟨ho, A2, N2, c2, rfl, hN2, hown⟩ | ⟨ho, rfl⟩⟩
  · rw [← HW1.out] at hb2 hown
    have hs2 := hb2.size
    have HB2 := Lib.hid (hb1.trans (hb2.mono (by omega)))
    have hlb : 60 ≤ N2 := by rw [hN2, m0.en_len]; exact sz_lb m0
    have hub : N2 ≤ 8000000 := by rw [hN2, m0.en_len]; exact s0
    obtain ⟨g, hA, _, _⟩ := Own.store hown (k := 0) (by rw [← hN2]; omega)
    subst hA
    have hgl := hown.1.lt g rfl
    have HN2 := Lib.hid hN2
    have HOK := Lib.hid ho
    have k1 := conv_n (c := c2) hown.sl hN2
    obtain ⟨S, hS⟩ : ∃ S, S = str m0.en := ⟨_, rfl⟩
    rw [← hS] at k1
    have HS := Lib.hid hS
    have HD := Lib.hid (decode_any (some ⟨g, 0, none⟩) N2 c2 m0.en w2 hN2 hown.inn (by rw [← hN2]; omega))
    clear HE hN2 hb1 hb2 hbx ho w0 hS
    go_wp2_with fail
    refine HD.out.mono ?_
    rintro e w4 ⟨hb4, a4, he, hm4, hf4⟩
    rw [dec_en HOK.out] at he hm4 hf4
    subst he
    have hs4 := hb4.size
    obtain ⟨w5, hw5⟩ : ∃ w5, w5 = w4.alloc (.cells #[.int .i64 m0.kd, .int .i64 m0.fr, .int .i64 m0.to, .int .i64 m0.se, .int .i64 m0.de, .int .i64 m0.cm, .int .i64 m0.ep, .slice a4.HA a4.HN a4.HC, .string (str m0.id), .int .i64 m0.sz, .int .i64 m0.so, .int .i64 m0.ta, .slice a4.DA a4.DN a4.DC, .slice a4.PA a4.PN a4.PC, .int .i64 m0.co, .slice a4.QA a4.QN a4.QC] 27) := ⟨_, rfl⟩
    have hb5 : Below w4.heap.size w4 w5 := by rw [hw5]; exact (Below.refl _ _).alloc (Nat.le_refl _) _
    have hs5 : w5.heap.size = w4.heap.size + 1 := by rw [hw5]; simp
    have hbz : MBox w5 w4.heap.size m0 a4 := by rw [hw5]; exact MBox.new w4 m0 a4 _
    have hbw := hb4.trans (hb5.mono hs4)
    have hown5 := hown.kept hbw
    have k5 := conv_n (c := c2) hown5.sl HN2.out
    rw [← HS.out] at k5
    have HB5 := Lib.hid (HB2.out.trans (hbw.mono (by have := HB2.out.size; omega)))
    have HM5 := Lib.hid (hm4.below hb5)
    have HF := Lib.hid hf4
    have HZ := Lib.hid hbz
    have HW5 := Lib.hid hw5
    rw [hw5] at k5
    clear hm4 hf4 hb4 hb5 hbw hw5 HD hown hbz k1
    go_wp2
    rw [← HW5.out]
    clear k5
    go_loopw [8] (WoRel w5 w1.heap.size g N2 c2) (fun i _ => N2 - (intOf i).toNat)
    case atStart => exact ⟨0, _, Nat.zero_le _, rfl, HN2.out, hown5, World.grownBy.refl _ _⟩
    case round =>
      obtain ⟨j, l', hj, rfl, hll, hown', hgw⟩ := hrel
      by_cases hjp : j < N2
      · obtain ⟨x, b', off', hx, hxb, e', _, hcell⟩ := hown'.sl.at_ (by omega : j < l'.length)
        injection e' with e'
        injection e' with e1 e2
        subst e1 e2
        rw [Nat.zero_add] at hcell
        have hfr := Own.frozen hown' j
        have hxor : bits .xor .u8 (x : Int) 255 = ((x ^^^ 255 : Nat) : Int) := u8_xor_nat x 255 hxb (by omega)
        have H1 := Lib.hid (hown'.put (k := j) (by omega) (Gf.xor_lt hxb (by omega : 255 < 256)))
        have H2 := Lib.hid (grown_put (k := j) hgw (.int .u8 ((x ^^^ 255 : Nat) : Int)))
        have HL := Lib.hid hll
        clear hx hll hown5
        go_wp2
        go_roundw
        case rel => exact ⟨j + 1, l'.set j (x ^^^ 255), by omega, by go_num, by rw [List.length_set]; exact HL.out, H1.out, H2.out⟩
        case measure => simp [intOf]; omega
      · have hgs := hgw.size
        have hkeep : ∀ b, w2.heap.size ≤ b → b < w5.heap.size → wr.heap[b]? = w5.heap[b]? := fun b h1 h2 => hgw.block b h2 (fun e => by injection e with e; omega)
        have hm := (HM5.out.keep HF.out (fun b h1 h2 => hkeep b h1 (by omega))).more (by omega : w4.heap.size ≤ wr.heap.size)
        have hz := HZ.out.keep (hkeep w4.heap.size (by omega) (by omega))
        have HBR := Lib.hid (show Below w.heap.size w wr from HB5.out.grown hgw HB5.out.size (fun k e => by injection e with e; have := HB2.out.size; omega))
        have HM := Lib.hid (rmsg_any m0 a4 wr hm (by omega))
        have cz0 : wr.cell? ⟨w4.heap.size, 0, none⟩ = some (.int .i64 m0.kd) := hz 0 _ rfl
        have cz1 : wr.cell? ⟨w4.heap.size, 1, none⟩ = some (.int .i64 m0.fr) := hz 1 _ rfl
        have cz2 : wr.cell? ⟨w4.heap.size, 2, none⟩ = some (.int .i64 m0.to) := hz 2 _ rfl
        have cz3 : wr.cell? ⟨w4.heap.size, 3, none⟩ = some (.int .i64 m0.se) := hz 3 _ rfl
        have cz4 : wr.cell? ⟨w4.heap.size, 4, none⟩ = some (.int .i64 m0.de) := hz 4 _ rfl
        have cz5 : wr.cell? ⟨w4.heap.size, 5, none⟩ = some (.int .i64 m0.cm) := hz 5 _ rfl
        have cz6 : wr.cell? ⟨w4.heap.size, 6, none⟩ = some (.int .i64 m0.ep) := hz 6 _ rfl
        have cz7 : wr.cell? ⟨w4.heap.size, 7, none⟩ = some (.slice a4.HA a4.HN a4.HC) := hz 7 _ rfl
        have cz8 : wr.cell? ⟨w4.heap.size, 8, none⟩ = some (.string (str m0.id)) := hz 8 _ rfl
        have cz9 : wr.cell? ⟨w4.heap.size, 9, none⟩ = some (.int .i64 m0.sz) := hz 9 _ rfl
        have cz10 : wr.cell? ⟨w4.heap.size, 10, none⟩ = some (.int .i64 m0.so) := hz 10 _ rfl
        have cz11 : wr.cell? ⟨w4.heap.size, 11, none⟩ = some (.int .i64 m0.ta) := hz 11 _ rfl
        have cz12 : wr.cell? ⟨w4.heap.size, 12, none⟩ = some (.slice a4.DA a4.DN a4.DC) := hz 12 _ rfl
        have cz13 : wr.cell? ⟨w4.heap.size, 13, none⟩ = some (.slice a4.PA a4.PN a4.PC) := hz 13 _ rfl
        have cz14 : wr.cell? ⟨w4.heap.size, 14, none⟩ = some (.int .i64 m0.co) := hz 14 _ rfl
        have cz15 : wr.cell? ⟨w4.heap.size, 15, none⟩ = some (.slice a4.QA a4.QN a4.QC) := hz 15 _ rfl
        clear hm hkeep hz hgw hown' hown5 hgs
        go_wp2_with fail
        refine HM.out.mono ?_
        rintro e w6 ⟨hb6, A6, N6, c6, r6, rfl, hI6, hN6, hr6⟩
        obtain rfl : r6 = m0.en := hr6 HOK.out
        rw [HOK.out]
        have HB6 := Lib.hid (HBR.out.trans (hb6.mono (by have := HBR.out.size; omega)))
        have HI6 := Lib.hid hI6
        have HN6 := Lib.hid hN6
        clear hb6 hI6 hN6 hr6 HM cz0 cz1 cz2 cz3 cz4 cz5 cz6 cz7 cz8 cz9 cz10 cz11 cz12 cz13 cz14 cz15
        go_wp2_with fail
        refine (answers_any w6).mono ?_
        rintro e w8 ⟨rfl, hb8⟩
        have k8 := conv_n (c := c6) ((HI6.out.below hb8).sl) HN6.out
        rw [← HS.out] at k8
        have HB8 := Lib.hid (HB6.out.trans (hb8.mono (by have := HB6.out.size; omega)))
        clear hb8
        go_wp2
        go_ret
        exact ⟨by simp, HB8.out⟩
  · rw [← HW1.out] at hb2
    have HB2 := Lib.hid (hb1.trans (hb2.mono (by omega)))
    clear HE hb1 hb2 hbx ho w0
    go_wp2_with fail
    refine (answers_any w2).mono ?_
    rintro e w8 ⟨rfl, hb8⟩
    have HB8 := Lib.hid (HB2.out.trans (hb8.mono (by have := HB2.out.size; omega)))
    clear hb8
    go_wp2
    go_ret
    exact ⟨rfl, HB8.out⟩

theorem contract (H : Type) (enc : TypeId × Value → H) (W : World) (base : Nat) (args : Array Value) (ds gs : List (DataW H)) (before : List MemPlace)
    (hval : ∀ (j : Nat) t v, Try.f7.params[j]? = some t → args[j]? = some v → Value.okWide Try.prog W .any base t v)
    (hW : DataW.Whole enc Try.prog Try.f7.params.toList Rows.wireOwnSpec.vars false W args.toList ds gs before) (hk : Rows.uptoSmall H (ds ++ gs) = true) :
    Calls Try.prog 7 args W fun e W' => ∃ v, e = .returned v ∧ Rows.wireOwnSpec.post enc Try.prog Try.f7 false true false false W args v W' := by
  have hW' := hW
  obtain ⟨p, q, hA0, hV, rfl, _hfz, _hnd⟩ := hW
  have hA : DataW.TrodAll enc Try.prog W 0 (fun _ => true) true Try.f7.params.toList args.toList ds p := hA0
  rw [Try.params7] at hA hval
  obtain ⟨v0, vs0, d0, ds0, p0, q0, hargs, rfl, rfl, h0, r0⟩ := trodAll_cons hA
  obtain ⟨rfl, rfl, rfl⟩ := trodAll_nil r0
  obtain rfl : args = #[v0] := by cases args; simp_all
  obtain ⟨rfl, rfl⟩ := trodVars_none hV
  simp only [List.append_nil] at hk
  have k0 := h0
  have lt0 : ∀ x ∈ p0, x.block < W.heap.size := by obtain ⟨m, hm⟩ := k0; exact DataW.trod_lt m _ _ _ hm
  obtain ⟨m0, b0, rfl, w0, D0⟩ := open_msg (hval 0 27 v0 rfl rfl) h0
  have s0 := msg_small (bulks.part hk (j := 0) rfl) D0
  clear hA0
  refine (walk m0 b0 W w0 s0).mono fun e W' ⟨he, bel⟩ => ?_
  subst he
  exact ⟨_, rfl, _, _, _, [], _, [], hW', trodAll_mk1 (shut_bool Try.underlying4 _), (trodAll_cons_mk (Below.trod laidOut (by kernel_rfl) (of_decide_eq_true (by kernel_rfl)) k0 bel lt0) trodAll_mk0), rfl, bel.frame _, fun h => by cases h⟩

set_option maxRecDepth 100000 in
theorem lifted (os : Os) (started : os.Started) (H : Type) (enc : TypeId × Value → H) (F : Stop.Interp) :
    ReturnsInHanded {} Try.checked os 7 .any ((Rows.OpenSpec.upto Rows.wireOwnSpec).pre6 enc Try.prog Try.f7 Rows.wireOwnUptoRow.domain false) (((Rows.OpenSpec.upto Rows.wireOwnSpec).at F).post enc Try.prog Try.f7 false true false false) := by
  refine returnsInHanded_of_cond (C := Try.checked) (s := Rows.OpenSpec.upto Rows.wireOwnSpec) (k := Rows.uptoSmall) rfl own started (by kernel_rfl) Try.func7
    (OpenSpec.witness (enc := enc) (C := Try.checked) (s := Rows.OpenSpec.upto Rows.wireOwnSpec) (k := Rows.uptoSmall) rfl false ⟨#[], #[.agg #[.int .i64 0, .int .i64 0, .int .i64 0, .int .i64 0, .int .i64 0, .int .i64 0, .int .i64 0, .slice none 0 0, .string ByteArray.empty, .int .i64 0, .int .i64 0, .int .i64 0, .slice none 0 0, .slice none 0 0, .int .i64 0, .slice none 0 0]], []⟩ 8 (by kernel_rfl) (by kernel_rfl) (by kernel_rfl)
      (x := ([.agg [.lit (.int .i64 0), .lit (.int .i64 0), .lit (.int .i64 0), .lit (.int .i64 0), .lit (.int .i64 0), .lit (.int .i64 0), .lit (.int .i64 0), .nil, .lit (.string []), .lit (.int .i64 0), .lit (.int .i64 0), .lit (.int .i64 0), .nil, .nil, .lit (.int .i64 0), .nil]], [], [])) (by kernel_rfl) rfl (by kernel_rfl)) ?_
  intro W base args ds gs before hval hW _ hk _
  exact contract H enc W base args ds gs before hval hW hk

theorem over : Rows.wireOwnUptoRow.holds Try.pinned (Rows.OpenSpec.upto Rows.wireOwnSpec) :=
  OpenClaim.holds_of_cond 7 Try.f7 rfl rfl rfl rfl rfl rfl rfl ⟨rfl, rfl, rfl, rfl, rfl⟩ rfl rfl rfl rfl rfl (by kernel_rfl) Try.func7 (by kernel_rfl)
    (of_decide_eq_true (by kernel_rfl)) (by unfold Func.isWrapper; first | (rw [if_pos (by decide +kernel)]; kernel_rfl) | (rw [if_neg (by decide +kernel)]; exact ⟨rfl, rfl⟩))
    (fun os started H enc _ F => lifted os started H enc F)

end Go.Proofs.Ytabalhhodcajmaa.wireOwn
namespace Go.Proofs.Ytabalhhodcajmaa
/-- The statement. -/
theorem wireOwn_holds : Rows.WireOwnUptoSaid := wireOwn.over
#print axioms wireOwn_holds
end Go.Proofs.Ytabalhhodcajmaa

