/- For every input StripeOwn returns true, and every argument reads behind the call as it did before, where what comes in is of bulk at most 1048576. -/
import Derived.Test.YtnpjncbdmgdjnaaRows
import Derived.ProofKit
import Derived.OpenShut
import Derived.SizedLaws
import Derived.ChangeOld
import Derived.Carry
import Derived.Test.YtnpjncbdmgdjnaaLawb
import Derived.Test.YtnpjncbdmgdjnaaBulk
import Derived.JoinedCond
import Derived.Test.YtnpjncbdmgdjnaaSta
import Derived.Test.YtnpjncbdmgdjnaaSsm
import Derived.Test.YtnpjncbdmgdjnaaSto
import Derived.Test.YtnpjncbdmgdjnaaGty
import Derived.Test.YtnpjncbdmgdjnaaRsp
namespace Go.Proofs.Ytnpjncbdmgdjnaa.stripeOwn
open Go.ChangeShapes Go.WideShapes Go.ChangeAt Go.RowKit Go.Shelf Gw Pol

theorem own : ownKnob Try.prog.godebug = none := by kernel_rfl
theorem laidOut : laidOutB Try.prog = true := by kernel_rfl
set_option maxRecDepth 100000 in
set_option maxHeartbeats 4000000 in
theorem walk (A0 : Option Addr) (c0 : Nat) (l0 : List Nat) (a1 : Int) (w : World) (w0 : In w w.heap.size A0 c0 l0) (s0 : c0 ≤ 1048576) (w1' : (Lit.int .u8 a1).wf = true) :
    Calls Try.prog 6 #[.slice A0 l0.length c0, .int .u8 a1] w fun e w' => e = .returned (.bool true) ∧ Below w.heap.size w w' := by
  obtain ⟨i0, hi0, hz0, hz1, hz2⟩ := info_parts pbyte_info
  have hb1 := bounds_u8 w1'
  obtain ⟨k, rfl⟩ : ∃ k : Nat, a1 = k := ⟨a1.toNat, by omega⟩
  clear w1'
  have hcap := w0.cap
  obtain ⟨N, hN⟩ : ∃ N, N = l0.length := ⟨_, rfl⟩
  rw [← hN]
  have hNb : N ≤ 1048576 := by omega
  have hwk : IntKind.i64.wrap (k : Int) = (k : Int) := by rw [IntKind.wrap_i64]; omega
  obtain ⟨R, hR⟩ : ∃ R, R = Sp.cnt N k := ⟨_, rfl⟩
  have hRN : R ≤ N := by rw [hR]; exact Sp.cnt_le N k
  have HN := Lib.hid hN
  have HSP := Lib.hid (fun A c w h => ssplit_any A c N k l0 w HN.out h (by omega) (by omega))
  rw [← hR] at HSP
  obtain ⟨σ, hσ⟩ : ∃ σ, σ = str l0 := ⟨_, rfl⟩
  have HSG := Lib.hid hσ
  have HSL := Lib.hid (w0.sl.alloc (Nat.le_refl _) (.cells #[] 5))
  have hnil := w0.none_
  clear hN hcap hR hσ
  go_enter Try.func6, Try.ntmps6
  go_wp2_with (first
    | (at_builtin; refine wpList_app rfl (.tmp 10) (.tmp 11) 22 rfl w.heap.size 5 i0 _ Try.underlying22 hi0 hz0 hz1 hz2 rfl (some ⟨w.heap.size, 0, none⟩) 0 0 [] rfl rfl (Own.lit0 w w.heap.size 5 (Nat.le_refl _)) w.heap.size A0 N c0 l0 rfl HN.out hnil HSL.out (by rw [← HN.out]; simp; omega) (by simp) ?_
       intro Ab cb w1 hob hgr
       rw [List.nil_append] at hob
       rw [List.nil_append, ← HN.out]
       have HB1 := Lib.hid (below_lit' (Below.refl w.heap.size w) (Nat.le_refl _) hgr)
       have HOB := Lib.hid hob
       clear hgr hob)
    | fail)
  refine (HSP.out Ab cb w1 HOB.out.inn).mono ?_
  rintro e w2 ⟨A1, c1, pa, cp, rfl, hC1⟩
  have HC1 := Lib.hid hC1
  have HB12 := Lib.hid hC1.bel
  have hcap1 := hC1.min.cap
  clear hC1
  go_wp2_with fail
  refine (HSP.out Ab cb w2 ((HOB.out.inn.below HB12.out).more HB12.out.size)).mono ?_
  rintro e w3 ⟨A2, c2, pa2, cp2, rfl, hC2⟩
  have HC2 := Lib.hid hC2
  have HB23 := Lib.hid hC2.bel
  have hst := Spo.start HC1.out (fun i _ => Sp.col_len _ _ _) hC2.bel
  clear hC2
  go_wp2
  go_loopw [8] (fun v wr => ∃ i : Nat, i ≤ R ∧ v = .int .i64 (i : Int) ∧ Spo w1 w2 w3 wr A1 R k pa cp) (fun v _ => R - (intOf v).toNat)
  case atStart => exact ⟨0, Nat.zero_le _, rfl, hst⟩
  case round =>
    obtain ⟨i, hi', rfl, hS⟩ := hrel
    clear hst
    by_cases hi : i < R
    · obtain ⟨g, o, hAG, hgl, hcs⟩ := hS.sp i hi
      have HAG := Lib.hid hAG
      obtain ⟨cq, hcq⟩ : ∃ q, q = cp i := ⟨_, rfl⟩
      have HCQ := Lib.hid hcq
      rw [← hcq] at hcs
      rw [hAG]
      have HS0 := Lib.hid hS
      clear hS hgl hcq hAG
      go_wp2
      go_loopw [9] (fun v wr => ∃ j : Nat, j ≤ k ∧ v = .int .i64 (j : Int) ∧ Spo w1 w2 w3 wr A1 R k pa cp) (fun v _ => k - (intOf v).toNat)
      case atStart => exact ⟨0, Nat.zero_le _, rfl, HS0.out⟩
      case round =>
        obtain ⟨j, hj, rfl, hS⟩ := hrel
        clear hcs
        by_cases hjk : j < k
        · obtain ⟨b, ob, x, hpa, hb1', hb2', hbl, hbg, hxb, hcb, hfr⟩ := hS.rw i hi j hjk
          obtain ⟨g', o', hA', hgl, hcs⟩ := hS.sp i hi
          rw [HAG.out] at hA'
          injection hA' with hA'
          injection hA' with e1 e2
          subst e1 e2
          rw [hpa, ← HCQ.out] at hcs
          obtain ⟨y, hy⟩ : ∃ y, y = x ^^^ 255 := ⟨_, rfl⟩
          have hyb : y < 256 := by rw [hy]; exact Gf.xor_lt hxb (by omega)
          have hxor : bits .xor .u8 (x : Int) 255 = (y : Int) := by rw [hy]; exact u8_xor_nat x 255 hxb (by omega)
          have HGL := Lib.hid hgl
          have HBL := Lib.hid hbl
          have HCS := Lib.hid hcs
          have HCB := Lib.hid hcb
          have HFR := Lib.hid hfr
          have HB1 := Lib.hid hb1'
          have HB2 := Lib.hid hb2'
          have HBG := Lib.hid hbg
          have HS := Lib.hid hS
          clear hpa hb1' hb2' hbl hbg hcb hfr hgl hy hS
          go_wp2
          clear hcs
          refine Gt.regionB [Gt.Is (.slice (some ⟨g, o, none⟩) R c1), Gt.Is (.int .i64 (i : Int)), Gt.Is (.pointer (some ⟨g, o + i, none⟩)), Gt.Is (.slice (some ⟨b, ob, none⟩) k cq), Gt.Is (.int .i64 (j : Int)), Gt.Is (.slice (some ⟨g, o, none⟩) R c1), Gt.Is (.int .i64 (i : Int)), Gt.Is (.pointer (some ⟨g, o + i, none⟩)), Gt.Is (.slice (some ⟨b, ob, none⟩) k cq), Gt.Is (.int .i64 (j : Int)), Gt.Is (.pointer (some ⟨b, ob + j, none⟩)), Gt.Is (.int .u8 (x : Int)), Gt.Is (.int .u8 (y : Int)), Gt.Is (.pointer (some ⟨b, ob + j, none⟩))] 66 14
            [⟨[], [6], none⟩, ⟨[], [8], none⟩, ⟨[(0, 36), (1, 37)], [], none⟩, ⟨[(2, 38)], [], none⟩, ⟨[], [9], none⟩, ⟨[], [6], none⟩, ⟨[], [8], none⟩, ⟨[(5, 41), (6, 42)], [], none⟩, ⟨[(7, 43)], [], none⟩, ⟨[], [9], none⟩, ⟨[(8, 44), (9, 45)], [], none⟩, ⟨[(10, 46)], [], none⟩, ⟨[(11, 47)], [], none⟩, ⟨[(3, 39), (4, 40)], [], none⟩, ⟨[(13, 49), (12, 48)], [], none⟩]
            [(0, 36), (1, 37), (2, 38), (3, 39), (4, 40), (5, 41), (6, 42), (7, 43), (8, 44), (9, 45), (10, 46), (11, 47), (12, 48), (13, 49)] (by kernel_rfl) (by kernel_rfl) (by kernel_rfl) (by kernel_rfl) (by kernel_rfl) ?_ ?_ ?_
          · simp only [Gt.Monos]
            repeat' apply And.intro
            all_goals (first | exact trivial | exact Gt.Is.mono _)
          · simp only [List.take_succ_cons, List.take_zero, Gt.Obs]
            repeat' apply And.intro
            all_goals try exact trivial
            all_goals (
              intro a w5 hg
              have hg' : Below wr.heap.size wr w5 := hg
              simp only [Gt.Pre, Gt.Kept, Gt.Guarded, Gt.tys, List.getD_cons_zero, List.getD_cons_succ, Gt.Is, Nat.zero_add, Nat.reduceAdd]
              intros
              try (refine ⟨fun _ => ?_, fun hne => absurd (by assumption) hne⟩))
            all_goals (first
              | exact Gt.ok_move rfl (by assumption)
              | exact Gt.ok_assign rfl (by assumption)
              | exact Gt.ok_pick rfl (by assumption) (by rw [if_pos rfl]; assumption)
              | (refine Gt.ok_run ?_ rfl
                 have k5 := (hg'.cell (p := ⟨g, o + i, none⟩) HGL.out).trans HCS.out
                 have k6 := (hg'.cell (p := ⟨b, ob + j, none⟩) HBL.out).trans HCB.out
                 simp only [execOp, *]
                 go_simp
                 done)
              | (refine Gt.ok_run ?_ rfl
                 simp only [execOp, *]
                 go_simp
                 done))
          · intro a w5 hg
            have hg' : Below wr.heap.size wr w5 := hg
            simp only [Gt.Pre, Gt.tys, List.getD_cons_zero, List.getD_cons_succ, Gt.Is]
            intro h0 h1 h2 h3 h4 h5 h6 h7 h8 h9 h10 h11 h12 h13
            simp only [Gt.puts, List.foldl_cons, List.foldl_nil, h0, h1, h2, h3, h4, h5, h6, h7, h8, h9, h10, h11, h12, h13, List.drop_succ_cons, List.drop_zero]
            simp only [Act.put, List.setIfInBounds_toArray, List.set_cons_zero, List.set_cons_succ]
            obtain ⟨w8, hw8⟩ : ∃ w8, w8 = w5 := ⟨_, rfl⟩
            rw [← hw8] at hg' ⊢
            have hS8 := HS.out.below hg'
            have hc8 := (hg'.cell (p := ⟨b, ob + j, none⟩) HBL.out).trans HCB.out
            have hf8 : w8.frozen? ⟨b, ob + j, none⟩ = false := (World.frozen?_of_block (w := wr) (a := ⟨b, ob + j, none⟩) (hg'.block b HBL.out)).trans HFR.out
            have HS9 := Lib.hid (hS8.put HB1.out HB2.out HBG.out hyb hc8)
            clear hS8 hg' hg h0 h1 h2 h3 h4 h5 h6 h7 h8 h9 h10 h11 h12 h13 hw8
            go_wp2
            go_roundw
            case rel => exact ⟨j + 1, by omega, by go_num, HS9.out⟩
            case measure => simp [intOf]; omega
        · obtain rfl : k = j := by omega
          obtain ⟨g', o', hA', hgl, hcs⟩ := hS.sp i hi
          rw [HAG.out] at hA'
          injection hA' with hA'
          injection hA' with e1 e2
          subst e1 e2
          rw [← HCQ.out] at hcs
          have HS := Lib.hid hS
          clear hS hgl
          go_wp2
          go_roundw
          case rel => exact ⟨i + 1, by omega, by go_num, by rw [← HAG.out]; exact HS.out⟩
          case measure => simp [intOf]; omega
    · obtain rfl : R = i := by omega
      obtain ⟨w4, hw4⟩ : ∃ w4, w4 = wr := ⟨_, rfl⟩
      rw [← hw4] at hS ⊢
      have hM4 := HC2.out.kt hS.kt (Nat.le_refl _)
      have hb34 : Below w1.heap.size w3 w4 := hS.kt.below (by have := HB12.out.size; have := HB23.out.size; omega)
      have hb14 : Below w1.heap.size w1 w4 := (HB12.out.trans (HB23.out.mono HB12.out.size)).trans hb34
      have hB4 : Below w.heap.size w w4 := HB1.out.trans (hb14.mono HB1.out.size)
      have hIb4 := HOB.out.inn.below hb14
      clear hS hw4 hb34
      go_wp2_with fail
      refine (answers_any w4).mono ?_
      rintro e w5 ⟨rfl, hb5⟩
      have hB5 := hB4.trans (hb5.mono hB4.size)
      have hIb5 := (hIb4.more hb14.size).below hb5
      have hM5 := (hM4.below hb5).more hb5.size
      have hcv := conv_sl (P := Try.prog) hIb5.sl Try.underlying22 Try.underlying5 Try.underlying9 cb
      have hcv' := conv_sl (P := Try.prog) (w0.below hB5).sl Try.underlying22 Try.underlying5 Try.underlying9 c0
      rw [← HN.out, ← HSG.out] at hcv hcv'
      clear hM4 hb14 hB4 hIb4 hIb5 hb5
      go_wp2_with fail
      refine (HSP.out A0 c0 w5 ((w0.below hB5).more hB5.size)).mono ?_
      rintro e w6 ⟨A3, c3, pa3, cp3, rfl, hC3⟩
      have hM6 := (hM5.below hC3.bel).more hC3.bel.size
      have hM6' := hC3.min
      have hB6 := hB5.trans (hC3.bel.mono hB5.size)
      clear hC3 hM5 hcv hcv' hB5
      go_wp2_with fail
      refine (same_yes A2 A3 c2 c3 R pa2 pa3 cp2 cp3 (Sp.col l0 k) (Sp.col l0 k) w6 hM6 hM6' (fun _ _ => rfl) (by omega)).mono ?_
      rintro e w7 ⟨rfl, hb7⟩
      go_wp2
      go_ret
      exact ⟨rfl, hB6.trans (hb7.mono hB6.size)⟩

theorem contract (H : Type) (enc : TypeId × Value → H) (W : World) (base : Nat) (args : Array Value) (ds gs : List (DataW H)) (before : List MemPlace)
    (hval : ∀ (j : Nat) t v, Try.f6.params[j]? = some t → args[j]? = some v → Value.okWide Try.prog W .any base t v)
    (hW : DataW.Whole enc Try.prog Try.f6.params.toList Rows.stripeOwnSpec.vars false W args.toList ds gs before) (hk : Rows.uptoSmall H (ds ++ gs) = true) :
    Calls Try.prog 6 args W fun e W' => ∃ v, e = .returned v ∧ Rows.stripeOwnSpec.post enc Try.prog Try.f6 false true false false W args v W' := by
  have hW' := hW
  obtain ⟨p, q, hA0, hV, rfl, _hfz, _hnd⟩ := hW
  have hA : DataW.TrodAll enc Try.prog W 0 (fun _ => true) true Try.f6.params.toList args.toList ds p := hA0
  rw [Try.params6] at hA hval
  obtain ⟨v0, vs0, d0, ds0, p0, q0, hargs, rfl, rfl, h0, r0⟩ := trodAll_cons hA
  obtain ⟨v1, vs1, d1, ds1, p1, q1, rfl, rfl, rfl, h1, r1⟩ := trodAll_cons r0
  obtain ⟨rfl, rfl, rfl⟩ := trodAll_nil r1
  obtain rfl : args = #[v0, v1] := by cases args; simp_all
  obtain ⟨rfl, rfl⟩ := trodVars_none hV
  simp only [List.append_nil] at hk
  have k0 := h0
  have lt0 : ∀ x ∈ p0, x.block < W.heap.size := by obtain ⟨m, hm⟩ := k0; exact DataW.trod_lt m _ _ _ hm
  obtain ⟨A0, c0, l0, rfl, w0, sz0⟩ := open_bytes Try.underlying22 Try.underlying5 (by kernel_rfl) (hval 0 22 v0 rfl rfl) h0
  have s0 := bulks.bytes_small (bulks.part hk (j := 0) rfl) sz0
  obtain ⟨a1, rfl, rfl, rfl, w1⟩ := open_int Try.underlying5 (hval 1 5 v1 rfl rfl) h1
  clear hA0
  refine (walk A0 c0 l0 a1 W w0 s0 w1).mono fun e W' ⟨he, bel⟩ => ?_
  subst he
  exact ⟨_, rfl, _, _, _, [], _, [], hW', trodAll_mk1 (shut_bool Try.underlying4 _), (trodAll_cons_mk (Below.trod laidOut (by kernel_rfl) (of_decide_eq_true (by kernel_rfl)) k0 bel lt0) (trodAll_cons_mk (shut_int Try.underlying5 w1) trodAll_mk0)), rfl, bel.frame _, fun h => by cases h⟩

set_option maxRecDepth 100000 in
theorem lifted (os : Os) (started : os.Started) (H : Type) (enc : TypeId × Value → H) (F : Stop.Interp) :
    ReturnsInHanded {} Try.checked os 6 .any ((Rows.OpenSpec.upto Rows.stripeOwnSpec).pre6 enc Try.prog Try.f6 Rows.stripeOwnUptoRow.domain false) (((Rows.OpenSpec.upto Rows.stripeOwnSpec).at F).post enc Try.prog Try.f6 false true false false) := by
  refine returnsInHanded_of_cond (C := Try.checked) (s := Rows.OpenSpec.upto Rows.stripeOwnSpec) (k := Rows.uptoSmall) rfl own started (by kernel_rfl) Try.func6
    (OpenSpec.witness (enc := enc) (C := Try.checked) (s := Rows.OpenSpec.upto Rows.stripeOwnSpec) (k := Rows.uptoSmall) rfl false ⟨#[], #[.slice none 0 0, .int .u8 0], []⟩ 8 (by kernel_rfl) (by kernel_rfl) (by kernel_rfl)
      (x := ([.nil, .lit (.int .u8 0)], [], [])) (by kernel_rfl) rfl (by kernel_rfl)) ?_
  intro W base args ds gs before hval hW _ hk _
  exact contract H enc W base args ds gs before hval hW hk

theorem over : Rows.stripeOwnUptoRow.holds Try.pinned (Rows.OpenSpec.upto Rows.stripeOwnSpec) :=
  OpenClaim.holds_of_cond 6 Try.f6 rfl rfl rfl rfl rfl rfl rfl ⟨rfl, rfl, rfl, rfl, rfl⟩ rfl rfl rfl rfl rfl (by kernel_rfl) Try.func6 (by kernel_rfl)
    (of_decide_eq_true (by kernel_rfl)) (by unfold Func.isWrapper; first | (rw [if_pos (by decide +kernel)]; kernel_rfl) | (rw [if_neg (by decide +kernel)]; exact ⟨rfl, rfl⟩))
    (fun os started H enc _ F => lifted os started H enc F)

end Go.Proofs.Ytnpjncbdmgdjnaa.stripeOwn
namespace Go.Proofs.Ytnpjncbdmgdjnaa
/-- The statement. -/
theorem stripeOwn_holds : Rows.StripeOwnUptoSaid := stripeOwn.over
#print axioms stripeOwn_holds
end Go.Proofs.Ytnpjncbdmgdjnaa

