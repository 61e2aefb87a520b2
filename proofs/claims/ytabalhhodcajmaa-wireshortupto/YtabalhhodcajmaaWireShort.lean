/- For every input WireShort returns true, and every argument reads behind the call as it did before, where what comes in is of bulk at most 1048576. -/
import Derived.Test.YtabalhhodcajmaaRows
import Derived.ProofKit
import Derived.OpenShut
import Derived.SizedLaws
import Derived.ChangeOld
import Derived.Carry
import Derived.Test.YtabalhhodcajmaaLawb
import Derived.Test.YtabalhhodcajmaaBulk
import Derived.JoinedCond
import Derived.Test.YtabalhhodcajmaaWik
import Derived.Test.YtabalhhodcajmaaSlx
import Derived.BigQuiet
import Derived.Test.YtabalhhodcajmaaLawr
namespace Go.Proofs.Ytabalhhodcajmaa.wireShort
open Go.ChangeShapes Go.WideShapes Go.ChangeAt Go.RowKit Go.Shelf Gw Pol Go.BigFrame

theorem own : ownKnob Try.prog.godebug = none := by kernel_rfl
theorem laidOut : laidOutB Try.prog = true := by kernel_rfl
set_option maxRecDepth 100000 in
set_option maxHeartbeats 1000000 in
theorem walk (m0 : Mg) (b0 : Ma) (a1 : Int) (a2 : Int) (w : World) (w0 : MgIn w w.heap.size m0 b0) (s0 : m0.sz' ≤ 8000000) (n1 : (Lit.int .u8 a1).wf = true) (n2 : (Lit.int .u8 a2).wf = true) :
    Calls Try.prog 5 #[mval m0 b0, .int .u8 a1, .int .u8 a2] w fun e w' => e = .returned (.bool true) ∧ Below w.heap.size w w' := by
  obtain ⟨x1, rfl⟩ := Int.eq_ofNat_of_zero_le (bounds_u8 n1).1
  obtain ⟨x2, rfl⟩ := Int.eq_ofNat_of_zero_le (bounds_u8 n2).1
  have hx1 : x1 < 256 := by have := (bounds_u8 n1).2; omega
  have hx2 : x2 < 256 := by have := (bounds_u8 n2).2; omega
  obtain ⟨w1, hw1⟩ : ∃ w1, w1 = w.alloc (.cells (mcs m0 b0).toArray 27) := ⟨_, rfl⟩
  have hb1 : Below w.heap.size w w1 := by rw [hw1]; exact (Below.refl _ _).alloc (Nat.le_refl _) _
  have hs1 : w1.heap.size = w.heap.size + 1 := by rw [hw1]; simp
  have hbx : MBox w1 w.heap.size m0 b0 := by rw [hw1]; exact MBox.new w m0 b0 _
  have HE := Lib.hid (encode_any m0 b0 w1 ((w0.below hb1).more hb1.size) (by omega))
  rw [hw1] at HE
  have HW1 := Lib.hid hw1
  clear hw1
  go_enter Try.func5, Try.ntmps5
  go_wp2_with fail
  refine HE.out.mono ?_
  rintro e w2 ⟨hb2, ⟨ho, A2, N2, c2, rfl, hN2, hown⟩ | ⟨ho, rfl⟩⟩
  · rw [← HW1.out] at hb2 hown
    have hs2 := hb2.size
    have HB2 := Lib.hid (hb1.trans (hb2.mono (by omega)))
    have hlb : 60 ≤ N2 := by rw [hN2, m0.en_len]; exact sz_lb m0
    have hub : N2 ≤ 8000000 := by rw [hN2, m0.en_len]; exact s0
    have HN2 := Lib.hid hN2
    have HOK := Lib.hid ho
    clear HE hN2 hb1 hb2 hbx ho w0
    obtain ⟨h, hh⟩ : ∃ h, h = N2 - 1 - x1 % 60 := ⟨_, rfl⟩
    have hhi : (N2 : Int) - 1 - (x1 : Int) % 60 = (h : Int) := by omega
    have hhN : h < N2 := by omega
    obtain ⟨AT, cT, hsl, hIT⟩ := slice_h_any (h := h) hown.inn HN2.out (by omega)
    have hbb := hown.2
    have hless : (dec (m0.en.take h)).2 = false := dec_less HOK.out hbb (List.take_append_drop h m0.en).symm (fun e => by
      have := congrArg List.length e
      rw [List.length_drop, ← HN2.out] at this
      simp at this; omega)
    have hlt : h = (m0.en.take h).length := by rw [List.length_take, ← HN2.out]; omega
    have HD1 := Lib.hid (decode_any AT h cT (m0.en.take h) w2 hlt hIT (by rw [← hlt]; omega))
    have HLESS : DecNo (m0.en.take h) := ⟨hless⟩
    have hmore : (dec (m0.en ++ [x2])).2 = false := dec_more HOK.out (by simp)
    have HMORE : DecNo (m0.en ++ [x2]) := ⟨hmore⟩
    have HI2 := Lib.hid hown.inn
    rw [← hhi] at hsl
    clear hh hless hlt hbb hmore hIT hown hhi hhN
    go_wp2_with fail
    refine HD1.out.mono ?_
    rintro e w3 ⟨hb3, a3, he, -, -⟩
    rw [HLESS.no] at he
    obtain ⟨M1, hM1⟩ : ∃ M1, M1 = (dec (m0.en.take h)).1 := ⟨_, rfl⟩
    rw [← hM1] at he
    subst he
    obtain ⟨W3, hW3⟩ : ∃ W3, W3 = w3.alloc (.cells #[.int .i64 M1.kd, .int .i64 M1.fr, .int .i64 M1.to, .int .i64 M1.se, .int .i64 M1.de, .int .i64 M1.cm, .int .i64 M1.ep, .slice a3.HA a3.HN a3.HC, .string (str M1.id), .int .i64 M1.sz, .int .i64 M1.so, .int .i64 M1.ta, .slice a3.DA a3.DN a3.DC, .slice a3.PA a3.PN a3.PC, .int .i64 M1.co, .slice a3.QA a3.QN a3.QC] 27) := ⟨_, rfl⟩
    have hb33 : Below w3.heap.size w3 W3 := by rw [hW3]; exact (Below.refl _ _).alloc (Nat.le_refl _) _
    have hs33 : W3.heap.size = w3.heap.size + 1 := by rw [hW3]; simp
    have hbW := hb3.trans (hb33.mono hb3.size)
    have HI3 := Lib.hid ((HI2.out.below hbW).alloc hbW.size (.cells #[] 5))
    have HB3 := Lib.hid (HB2.out.trans (hbW.mono (by have := HB2.out.size; omega)))
    have HO3 := Lib.hid (Own.lit0 W3 W3.heap.size 5 (Nat.le_refl _))
    rw [hs33] at HO3
    have HW3 := Lib.hid hW3.symm
    have HS3 := Lib.hid hs33
    clear hM1 hb3 hb33 hbW hW3 hs33 HD1 hsl
    obtain ⟨i0, hi0, hz0, hz1, hz2⟩ := info_parts pbyte_info
    go_wp2_with (first
      | (at_builtin; rw [HW3.out]; refine wpList_app rfl (.tmp 44) (.tmp 45) 25 rfl (w3.heap.size + 1) 5 i0 _ Try.underlying25 hi0 hz0 hz1 hz2 rfl (some ⟨w3.heap.size + 1, 0, none⟩) 0 0 [] rfl rfl HO3.out w2.heap.size A2 N2 c2 m0.en rfl HN2.out HI3.out.none_ HI3.out.sl (by rw [← HN2.out]; simp; omega) (by have := HS3.out; simp; omega) ?_; intro A4 c4 w4 hown4 hgr4)
      | (at_builtin; refine wpList_app rfl (.tmp 46) (.tmp 48) 25 rfl (w3.heap.size + 1) 5 i0 _ Try.underlying25 hi0 hz0 hz1 hz2 rfl A4 _ c4 ([] ++ m0.en) rfl (by simp) (hown4.alloc _) (w4.heap.size + 1) (some ⟨w4.heap.size, 0, none⟩) 1 1 [x2] rfl rfl (fun e => by cases e) (Sl.one w4 5 x2 hx2) (by rw [List.nil_append, ← HN2.out]; simp; omega) (by have h1 := hgr4.size; have h2 := HS3.out; simp at h1 ⊢; omega) ?_; intro A5 c5 w5 hown5 hgr5)
      | fail)
    rw [List.nil_append] at hown4 hown5
    have hB4 : Below W3.heap.size W3 w4 := below_lit' (Below.refl _ _) (Nat.le_refl _) (by rw [HS3.out]; exact hgr4)
    have hB5 : Below W3.heap.size W3 w5 := below_app hB4 hB4.size (by rw [HS3.out]; exact hown4) hgr5
    have HB5 := Lib.hid (HB3.out.trans (hB5.mono (by have := HB3.out.size; omega)))
    have HD2 := Lib.hid (decode_any A5 (m0.en.length + 1) c5 (m0.en ++ [x2]) w5 (by simp) hown5.inn (by have := HN2.out; simp; omega))
    clear hB4 hB5 hgr4 hgr5 hown4 hown5 hi0 hz0 hz1 hz2
    refine HD2.out.mono ?_
    rintro e w6 ⟨hb6, a6, he, -, -⟩
    rw [HMORE.no] at he
    obtain ⟨M2, hM2⟩ : ∃ M2, M2 = (dec (m0.en ++ [x2])).1 := ⟨_, rfl⟩
    rw [← hM2] at he
    subst he
    have HB6 := Lib.hid (HB5.out.trans (hb6.mono (by have := HB5.out.size; omega)))
    clear hM2 hb6 HD2
    go_wp2_with (go_at_call 11; refine (answers_any _).mono ?_; rintro e w8 ⟨rfl, hb8⟩)
    go_ret
    exact ⟨rfl, (HB6.out.alloc HB6.out.size _).trans (hb8.mono (by have := HB6.out.size; simp; omega))⟩
  · rw [← HW1.out] at hb2
    have HB2 := Lib.hid (hb1.trans (hb2.mono (by omega)))
    clear HE hb1 hb2 hbx ho w0
    go_wp2_with fail
    refine (answers_any _).mono ?_
    rintro e w8 ⟨rfl, hb8⟩
    have HB8 := Lib.hid (HB2.out.trans (hb8.mono (by have := HB2.out.size; omega)))
    clear hb8
    go_wp2
    go_ret
    exact ⟨rfl, HB8.out⟩

theorem contract (H : Type) (enc : TypeId × Value → H) (W : World) (base : Nat) (args : Array Value) (ds gs : List (DataW H)) (before : List MemPlace)
    (hval : ∀ (j : Nat) t v, Try.f5.params[j]? = some t → args[j]? = some v → Value.okWide Try.prog W .any base t v)
    (hW : DataW.Whole enc Try.prog Try.f5.params.toList Rows.wireShortSpec.vars false W args.toList ds gs before) (hk : Rows.uptoSmall H (ds ++ gs) = true) :
    Calls Try.prog 5 args W fun e W' => ∃ v, e = .returned v ∧ Rows.wireShortSpec.post enc Try.prog Try.f5 false true false false W args v W' := by
  have hW' := hW
  obtain ⟨p, q, hA0, hV, rfl, _hfz, _hnd⟩ := hW
  have hA : DataW.TrodAll enc Try.prog W 0 (fun _ => true) true Try.f5.params.toList args.toList ds p := hA0
  rw [Try.params5] at hA hval
  obtain ⟨v0, vs0, d0, ds0, p0, q0, hargs, rfl, rfl, h0, r0⟩ := trodAll_cons hA
  obtain ⟨v1, vs1, d1, ds1, p1, q1, rfl, rfl, rfl, h1, r1⟩ := trodAll_cons r0
  obtain ⟨v2, vs2, d2, ds2, p2, q2, rfl, rfl, rfl, h2, r2⟩ := trodAll_cons r1
  obtain ⟨rfl, rfl, rfl⟩ := trodAll_nil r2
  obtain rfl : args = #[v0, v1, v2] := by cases args; simp_all
  obtain ⟨rfl, rfl⟩ := trodVars_none hV
  simp only [List.append_nil] at hk
  have k0 := h0
  have lt0 : ∀ x ∈ p0, x.block < W.heap.size := by obtain ⟨m, hm⟩ := k0; exact DataW.trod_lt m _ _ _ hm
  obtain ⟨m0, b0, rfl, w0, D0⟩ := open_msg (hval 0 27 v0 rfl rfl) h0
  have s0 := msg_small (bulks.part hk (j := 0) rfl) D0
  obtain ⟨a1, rfl, rfl, rfl, w1⟩ := open_int Try.underlying5 (hval 1 5 v1 rfl rfl) h1
  obtain ⟨a2, rfl, rfl, rfl, w2⟩ := open_int Try.underlying5 (hval 2 5 v2 rfl rfl) h2
  clear hA0
  refine (walk m0 b0 a1 a2 W w0 s0 w1 w2).mono fun e W' ⟨he, bel⟩ => ?_
  subst he
  exact ⟨_, rfl, _, _, _, [], _, [], hW', trodAll_mk1 (shut_bool Try.underlying4 _), (trodAll_cons_mk (Below.trod laidOut (by kernel_rfl) (of_decide_eq_true (by kernel_rfl)) k0 bel lt0) (trodAll_cons_mk (shut_int Try.underlying5 w1) (trodAll_cons_mk (shut_int Try.underlying5 w2) trodAll_mk0))), rfl, bel.frame _, fun h => by cases h⟩

set_option maxRecDepth 100000 in
theorem lifted (os : Os) (started : os.Started) (H : Type) (enc : TypeId × Value → H) (F : Stop.Interp) :
    ReturnsInHanded {} Try.checked os 5 .any ((Rows.OpenSpec.upto Rows.wireShortSpec).pre6 enc Try.prog Try.f5 Rows.wireShortUptoRow.domain false) (((Rows.OpenSpec.upto Rows.wireShortSpec).at F).post enc Try.prog Try.f5 false true false false) := by
  refine returnsInHanded_of_cond (C := Try.checked) (s := Rows.OpenSpec.upto Rows.wireShortSpec) (k := Rows.uptoSmall) rfl own started (by kernel_rfl) Try.func5
    (OpenSpec.witness (enc := enc) (C := Try.checked) (s := Rows.OpenSpec.upto Rows.wireShortSpec) (k := Rows.uptoSmall) rfl false ⟨#[], #[.agg #[.int .i64 0, .int .i64 0, .int .i64 0, .int .i64 0, .int .i64 0, .int .i64 0, .int .i64 0, .slice none 0 0, .string ByteArray.empty, .int .i64 0, .int .i64 0, .int .i64 0, .slice none 0 0, .slice none 0 0, .int .i64 0, .slice none 0 0], .int .u8 0, .int .u8 0], []⟩ 8 (by kernel_rfl) (by kernel_rfl) (by kernel_rfl)
      (x := ([.agg [.lit (.int .i64 0), .lit (.int .i64 0), .lit (.int .i64 0), .lit (.int .i64 0), .lit (.int .i64 0), .lit (.int .i64 0), .lit (.int .i64 0), .nil, .lit (.string []), .lit (.int .i64 0), .lit (.int .i64 0), .lit (.int .i64 0), .nil, .nil, .lit (.int .i64 0), .nil], .lit (.int .u8 0), .lit (.int .u8 0)], [], [])) (by kernel_rfl) rfl (by kernel_rfl)) ?_
  intro W base args ds gs before hval hW _ hk _
  exact contract H enc W base args ds gs before hval hW hk

theorem over : Rows.wireShortUptoRow.holds Try.pinned (Rows.OpenSpec.upto Rows.wireShortSpec) :=
  OpenClaim.holds_of_cond 5 Try.f5 rfl rfl rfl rfl rfl rfl rfl ⟨rfl, rfl, rfl, rfl, rfl⟩ rfl rfl rfl rfl rfl (by kernel_rfl) Try.func5 (by kernel_rfl)
    (of_decide_eq_true (by kernel_rfl)) (by unfold Func.isWrapper; first | (rw [if_pos (by decide +kernel)]; kernel_rfl) | (rw [if_neg (by decide +kernel)]; exact ⟨rfl, rfl⟩))
    (fun os started H enc _ F => lifted os started H enc F)

end Go.Proofs.Ytabalhhodcajmaa.wireShort
namespace Go.Proofs.Ytabalhhodcajmaa
/-- The statement. -/
theorem wireShort_holds : Rows.WireShortUptoSaid := wireShort.over
#print axioms wireShort_holds
end Go.Proofs.Ytabalhhodcajmaa

