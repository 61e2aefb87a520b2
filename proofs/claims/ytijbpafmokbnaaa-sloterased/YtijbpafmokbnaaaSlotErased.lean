/- For every input SlotErased returns true, and every argument reads behind the call as it did before: no condition. -/
import Derived.Test.YtijbpafmokbnaaaRows
import Derived.ProofKit
import Derived.OpenShut
import Derived.SizedLaws
import Derived.ChangeOld
import Derived.Carry
import Derived.Test.YtijbpafmokbnaaaLawb
import Derived.Test.YtijbpafmokbnaaaSkl
namespace Go.Proofs.Ytijbpafmokbnaaa.slotErased
open Go.ChangeShapes Go.WideShapes Go.ChangeAt Go.RowKit Go.Shelf Gw Pol

theorem own : ownKnob Try.prog.godebug = none := by kernel_rfl
theorem laidOut : laidOutB Try.prog = true := by kernel_rfl
/-- Behind the root there is one byte, or none. -/
theorem er_at {L : List Nat} {side b : Nat} (h : Sd 40 L side [b]) (hc : Cl 40 L side) {i j : Nat} (hi : 1 ≤ i) (hi2 : i < 81) (hj : j < 32) : co (piece L i) j = if i = 1 + side * 40 ∧ j = 0 then b else 0 := by
  rw [co_piece hj]
  have hz : ∀ a, co [b] a = if a = 0 then b else 0 := fun a => by
    cases a with
    | zero => rfl
    | succ a => rfl
  have h2 := h.two
  by_cases c : 1 + side * 40 ≤ i ∧ i < 1 + side * 40 + 40
  · have := h.data (i * 32 + j - 32 * (1 + side * 40)) (by omega)
    rw [show 32 * (1 + side * 40) + (i * 32 + j - 32 * (1 + side * 40)) = i * 32 + j by omega, hz] at this
    rw [this]
    by_cases e : i = 1 + side * 40 ∧ j = 0
    · rw [if_pos e, if_pos (by omega)]
    · rw [if_neg e, if_neg (by omega)]
  · rw [if_neg (by omega)]
    have := hc (i * 32 + j - 32 * (1 + (1 - side) * 40)) (by omega)
    rwa [show 32 * (1 + (1 - side) * 40) + (i * 32 + j - 32 * (1 + (1 - side) * 40)) = i * 32 + j by omega] at this
/-- What is counted yet. -/
def er (side b i : Nat) : Nat := if 1 + side * 40 < i ∧ b ≠ 0 then 1 else 0
def E1 (w : World) (z p g : Nat) (L : List Nat) (s : Pw) (side b : Nat) (v6 v7 : Value) (wr : World) : Prop := ∃ i : Nat, v6 = .int .i64 (er side b i : Int) ∧ v7 = .int .i64 (i : Int) ∧ 1 ≤ i ∧ i ≤ 81 ∧ Sz wr z p g 40 L s ∧ Below w.heap.size w wr
def E2 (W : World) (side b i : Nat) (v6 v10 : Value) (wr : World) : Prop := ∃ j : Nat, v6 = .int .i64 ((er side b i + (if i = 1 + side * 40 ∧ 0 < j ∧ b ≠ 0 then 1 else 0) : Nat) : Int) ∧ v10 = .int .i64 (j : Int) ∧ j ≤ 32 ∧ wr = W
set_option maxRecDepth 100000 in
set_option maxHeartbeats 1000000 in
theorem walk_nat (A0 : Option Addr) (c0 : Nat) (l0 : List Nat) (b : Nat) (hb : b < 256) (w : World) (w0 : In w w.heap.size A0 c0 l0) :
    Calls Try.prog 6 #[.slice A0 l0.length c0, .int .u8 (b : Int)] w fun e w' => e = .returned (.bool true) ∧ Below w.heap.size w w' := by
  obtain ⟨n0, hn0⟩ : ∃ n0, n0 = l0.length := ⟨_, rfl⟩
  rw [← hn0]
  have HN := Lib.hid hn0
  have HI := Lib.hid w0
  have HBB := Lib.hid hb
  clear hn0 w0
  go_enter Try.func6, Try.ntmps6
  go_wp2_with fail
  refine (sq_new 40 40 rfl w).mono ?_
  rintro e w1 ⟨z, p, g, rfl, hq1, hz, hp, hg, hb1⟩
  have HZ := Lib.hid hz
  have HP := Lib.hid hp
  have HG := Lib.hid hg
  have HQ1 := Lib.hid hq1
  have HB1 := Lib.hid hb1
  clear hz hp hg hq1 hb1
  by_cases h4 : n0 < 4
  · have h4' : (n0 : Int) < 4 := by omega
    go_wp2_with fail
    refine (answers_any w1).mono ?_
    rintro e w2 ⟨rfl, hb2⟩
    have HB2 := Lib.hid (HB1.out.trans (hb2.mono HB1.out.size))
    clear hb2
    go_wp2
    go_ret
    exact ⟨rfl, HB2.out⟩
  · have h4' : ¬ (n0 : Int) < 4 := by omega
    by_cases h1k : 1000 < n0
    · have h1k' : (1000 : Int) < (n0 : Int) := by omega
      go_wp2_with fail
      refine (answers_any w1).mono ?_
      rintro e w2 ⟨rfl, hb2⟩
      have HB2 := Lib.hid (HB1.out.trans (hb2.mono HB1.out.size))
      clear hb2
      go_wp2
      go_ret
      exact ⟨rfl, HB2.out⟩
    · have h1k' : ¬ (1000 : Int) < (n0 : Int) := by omega
      have hI1 : In w1 w.heap.size A0 c0 l0 := HI.out.below HB1.out
      have hf1 := sq_free z p g 40 w.heap.size 0 _ [] l0 A0 n0 c0 w1 HQ1.out hI1 (fun o hne => ⟨in_no hI1 HZ.out hne o, in_no hI1 HP.out hne o, in_no hI1 HG.out hne o⟩) HN.out (by unfold tk; omega) (by omega) rfl
      obtain ⟨u1, hu1⟩ : ∃ u1, u1 = 0 + (tk l0.length + 1) + tk ([] : List Nat).length := ⟨_, rfl⟩
      rw [← hu1] at hf1
      have HU1 := Lib.hid (show u1 ≤ 64 by have := HN.out; rw [hu1]; show 0 + (tk l0.length + 1) + 0 ≤ _; unfold tk; omega)
      have HS := Lib.hid hf1
      clear hI1 hf1 hu1 h4 h1k
      go_wp2_with fail
      refine HS.out.mono ?_
      rintro e w2 ⟨rfl, hq2, hk2⟩
      have HB2 := Lib.hid (HB1.out.trans (hk2.below HB1.out.size HZ.out HP.out HG.out))
      obtain ⟨wo, hwo⟩ : ∃ wo, wo = w2.alloc (.cells #[.int .u8 (b : Int)] 5) := ⟨_, rfl⟩
      have hbo : Below w2.heap.size w2 wo := by rw [hwo]; exact bel_al (Nat.le_refl _) _
      have hIo : In wo (w2.heap.size + 1) (some ⟨w2.heap.size, 0, none⟩) 1 [b] := by rw [hwo]; exact ⟨Sl.one w2 _ b HBB.out, Nat.le_refl _, fun e => by cases e⟩
      have hlt := hq2.lt
      have hqo : Sq wo z p g 40 ⟨-1, false, u1⟩ l0 := hq2.below hbo (Nat.le_refl _)
      have HS := Lib.hid (sq_free z p g 40 _ u1 _ l0 [b] (some ⟨w2.heap.size, 0, none⟩) 1 1 wo hqo hIo (fun o _ => fresh_blk ⟨hlt.1, hlt.2.1, hlt.2.2.1⟩ o) rfl (by decide) (by have := HU1.out; omega) rfl)
      have HWO := Lib.hid hwo
      have HBO := Lib.hid (HB2.out.trans (hbo.mono HB2.out.size))
      clear hq2 hk2 hwo hbo hIo hlt hqo HQ1 HB1
      go_wp2_with fail
      rw [← HWO.out]
      refine HS.out.mono ?_
      rintro e w3 ⟨rfl, hq3, hk3⟩
      have HB3 := Lib.hid (HBO.out.trans (hk3.below HBO.out.size HZ.out HP.out HG.out))
      obtain ⟨L, side, hz3, hsd, hcl⟩ := hq3
      have HZ3 := Lib.hid hz3
      have HSD := Lib.hid hsd
      have HCL := Lib.hid (hcl rfl)
      obtain ⟨s, hs⟩ : ∃ s, s = (⟨-1, false, u1 + (tk [b].length + 1) + tk l0.length⟩ : Pw) := ⟨_, rfl⟩
      rw [← hs] at HZ3
      have HTWO := Lib.hid hsd.two
      clear hk3 hz3 hsd hcl hs HS HWO HBO HB2
      go_wp2
      go_loopw [6, 7] (E1 w z p g L s side b) (fun _ i _ => 81 - (intOf i).toNat)
      case atStart => exact ⟨1, by show Value.int .i64 0 = .int .i64 ((er side b 1 : Nat) : Int); rw [show er side b 1 = 0 by unfold er; rw [if_neg (by omega)]]; rfl, rfl, by omega, by omega, HZ3.out, HB3.out⟩
      case round =>
        obtain ⟨i, rfl, rfl, hi1, hi2, hzr, hbr⟩ := hrel
        have HZR := Lib.hid hzr
        have HBR := Lib.hid hbr
        clear hzr hbr HZ3 HB3
        obtain ⟨c, hc⟩ : ∃ c, c = er side b i := ⟨_, rfl⟩
        rw [← hc]
        have HCC := Lib.hid hc
        clear hc
        by_cases hi : i < 81
        · have hi' : (i : Int) < 81 := by omega
          have HD := Lib.hid (zdisk_any z p g 40 L s wr HZR.out)
          have HLN := Lib.hid (show Calls Try.prog 21 #[.pointer (some ⟨p, 0, none⟩)] wr fun e w' => e = .returned (.int .i64 81) ∧ w' = wr from dz_len p g _ L s wr HZR.out.dz)
          have HRD := Lib.hid (dz_read p g _ L s i wr HZR.out.dz (by omega))
          go_wp2_with fail
          refine HD.out.mono ?_
          rintro e w5 ⟨rfl, rfl⟩
          go_wp2_with fail
          refine HLN.out.mono ?_
          rintro e w6 ⟨rfl, rfl⟩
          go_wp2_with fail
          refine HD.out.mono ?_
          rintro e w7 ⟨rfl, rfl⟩
          go_wp2_with fail
          refine HRD.out.mono ?_
          rintro e w8 ⟨r, rfl, hbk, hr, hb8⟩
          have hpl : (piece L i).length = 32 := piece_len HSD.out.len (by omega)
          have HBK := Lib.hid hbk
          have HPL := Lib.hid hpl
          have HZ8 := Lib.hid (HZR.out.below hb8 (Nat.le_refl _))
          have HB8 := Lib.hid (HBR.out.trans (hb8.mono HBR.out.size))
          clear hbk hr hb8 hpl HD HLN HRD HZR HBR
          go_wp2
          go_loopw [6, 10] (E2 w8 side b i) (fun _ j _ => 32 - (intOf j).toNat)
          case atStart => exact ⟨0, by rw [if_neg (by omega), Nat.add_zero, ← HCC.out], rfl, by omega, rfl⟩
          case round =>
            obtain ⟨j, rfl, rfl, hj, rfl⟩ := hrel
            obtain ⟨d, hd⟩ : ∃ d, d = er side b i + (if i = 1 + side * 40 ∧ 0 < j ∧ b ≠ 0 then 1 else 0) := ⟨_, rfl⟩
            rw [← hd]
            have hd2 : d ≤ 2 := by rw [hd]; unfold er; split <;> split <;> omega
            have HDD := Lib.hid hd
            clear hd
            by_cases hj2 : j < 32
            · have hj' : (j : Int) < 32 := by omega
              obtain ⟨x, hx⟩ : ∃ x, x = co (piece L i) j := ⟨_, rfl⟩
              have hcx := HBK.out.cell' (k := j) (by rw [HPL.out]; exact hj2)
              rw [← hx] at hcx
              rw [er_at HSD.out HCL.out hi1 hi hj2] at hx
              have HX := Lib.hid hx
              clear hx
              by_cases hx0 : x = 0
              · subst hx0
                go_wp2
                go_roundw
                case rel =>
                  refine ⟨j + 1, ?_, by go_num, by omega, rfl⟩
                  rw [HDD.out]
                  congr 2
                  have := HX.out
                  by_cases e : i = 1 + side * 40 ∧ j = 0
                  · rw [if_pos e] at this
                    rw [if_neg (by omega), if_neg (by omega)]
                  · by_cases e2 : i = 1 + side * 40 ∧ 0 < j ∧ b ≠ 0
                    · rw [if_pos e2, if_pos (by omega)]
                    · rw [if_neg e2, if_neg (by omega)]
                case measure => simp [intOf]; omega
              · have hx1 : ((x : Int) != 0) = true := by simp; omega
                have hw1 : IntKind.i64.wrap ((d : Int) + 1) = ((d + 1 : Nat) : Int) := by rw [IntKind.wrap_i64]; omega
                go_wp2
                go_roundw
                case rel =>
                  refine ⟨j + 1, ?_, by go_num, by omega, rfl⟩
                  have hxx := HX.out
                  have e : i = 1 + side * 40 ∧ j = 0 := by
                    by_cases e : i = 1 + side * 40 ∧ j = 0
                    · exact e
                    · rw [if_neg e] at hxx; exact absurd hxx hx0
                  rw [if_pos e] at hxx
                  rw [if_pos (by omega)]
                  have hdd := HDD.out
                  rw [if_neg (by omega)] at hdd
                  rw [hdd]
                  rfl
                case measure => simp [intOf]; omega
            · obtain rfl : j = 32 := by omega
              clear hj2 hj
              go_wp2
              go_roundw
              case rel =>
                refine ⟨i + 1, ?_, by go_num, by omega, by omega, HZ8.out, HB8.out⟩
                rw [HDD.out]
                congr 2
                unfold er
                by_cases e : i = 1 + side * 40 ∧ b ≠ 0
                · rw [if_neg (by omega), if_pos (by omega), if_pos (by omega)]
                · rw [if_neg (show ¬ (i = 1 + side * 40 ∧ 0 < 32 ∧ b ≠ 0) by omega), Nat.add_zero]
                  by_cases e2 : 1 + side * 40 < i ∧ b ≠ 0
                  · rw [if_pos e2, if_pos (by omega)]
                  · rw [if_neg e2, if_neg (by omega)]
              case measure => simp [intOf]; omega
        · obtain rfl : i = 81 := by omega
          have HD := Lib.hid (zdisk_any z p g 40 L s wr HZR.out)
          have HLN := Lib.hid (show Calls Try.prog 21 #[.pointer (some ⟨p, 0, none⟩)] wr fun e w' => e = .returned (.int .i64 81) ∧ w' = wr from dz_len p g _ L s wr HZR.out.dz)
          clear hi hi1 hi2
          go_wp2_with fail
          refine HD.out.mono ?_
          rintro e w5 ⟨rfl, rfl⟩
          go_wp2_with fail
          refine HLN.out.mono ?_
          rintro e w6 ⟨rfl, rfl⟩
          go_wp2_with fail
          refine (answers_any _).mono ?_
          rintro e w7 ⟨rfl, hb7⟩
          have HB7 := Lib.hid (HBR.out.trans (hb7.mono HBR.out.size))
          clear hb7
          by_cases hb0 : b = 0
          · subst hb0
            have hc0 : c = 0 := by rw [HCC.out]; unfold er; rw [if_neg (by omega)]
            subst hc0
            go_wp2
            go_ret
            exact ⟨rfl, HB7.out⟩
          · have hbe : ((b : Int) == 0) = false := by simp; omega
            have hbn : ((b : Int) != 0) = true := by simp; omega
            have hc1 : c = 1 := by rw [HCC.out]; unfold er; rw [if_pos (by have := HTWO.out; omega)]
            subst hc1
            go_wp2
            go_ret
            exact ⟨rfl, HB7.out⟩
theorem walk (A0 : Option Addr) (c0 : Nat) (l0 : List Nat) (a1 : Int) (w : World) (w0 : In w w.heap.size A0 c0 l0) (_s0 : c0 ≤ 140737488351232) (w1 : (Lit.int .u8 a1).wf = true) :
    Calls Try.prog 6 #[.slice A0 l0.length c0, .int .u8 a1] w fun e w' => e = .returned (.bool true) ∧ Below w.heap.size w w' := by
  obtain ⟨h0, h1⟩ := bounds_u8 w1
  obtain ⟨b, rfl⟩ := Int.eq_ofNat_of_zero_le h0
  exact walk_nat A0 c0 l0 b (by omega) w w0

set_option maxRecDepth 100000 in
theorem lifted (os : Os) (started : os.Started) (H : Type) (enc : TypeId × Value → H) :
    ReturnsInHanded {} Try.checked os 6 .any (Rows.slotErasedSpec.pre6 enc Try.prog Try.f6 Rows.slotErasedRow.domain false) (Rows.slotErasedSpec.post enc Try.prog Try.f6 false true false false) := by
  refine returnsInHanded_of_change_sized (C := Try.checked) own started (by kernel_rfl) Try.func6
    (ChangeSpec.witness6 (enc := enc) (C := Try.checked) false ⟨#[], #[.slice none 0 0, .int .u8 0], []⟩ 8 (by kernel_rfl) (by kernel_rfl) (by kernel_rfl) (by kernel_rfl)) ?_
  intro W base args ds gs before hval0 hW _hcnd hsz0 _
  have hval : ∀ (j : Nat) t v, Try.f6.params[j]? = some t → args[j]? = some v → Value.okWide Try.prog W .any base t v := hval0
  have hW' := hW
  obtain ⟨p, q, hA0, hV, rfl, _hfz, _hnd⟩ := hW
  have hA : DataW.TrodAll enc Try.prog W 0 (fun _ => true) true Try.f6.params.toList args.toList ds p := hA0
  have hsz : (DataW.weightsEach Try.prog (Try.f6.params.toList ++ Rows.slotErasedSpec.plain.varTypes Try.prog) (ds ++ gs)).all (· ≤ reachBytes) = true := hsz0
  rw [Try.params6] at hA hval hsz
  obtain ⟨v0, vs0, d0, ds0, p0, q0, hargs, rfl, rfl, h0, r0⟩ := trodAll_cons hA
  obtain ⟨v1, vs1, d1, ds1, p1, q1, rfl, rfl, rfl, h1, r1⟩ := trodAll_cons r0
  obtain ⟨rfl, rfl, rfl⟩ := trodAll_nil r1
  obtain rfl : args = #[v0, v1] := by cases args; simp_all
  obtain ⟨rfl, rfl⟩ := trodVars_none hV
  have k0 := h0
  have lt0 : ∀ x ∈ p0, x.block < W.heap.size := by obtain ⟨m, hm⟩ := k0; exact DataW.trod_lt m _ _ _ hm
  obtain ⟨A0, c0, l0, rfl, w0, sz0⟩ := open_bytes Try.underlying28 Try.underlying5 (by kernel_rfl) (hval 0 28 v0 rfl rfl) h0
  have s0 := sized_bytes hsz (j := 0) (t := 28) (e := 5) rfl rfl Try.underlying28 (by kernel_rfl) sz0
  obtain ⟨a1, rfl, rfl, rfl, w1⟩ := open_int Try.underlying5 (hval 1 5 v1 rfl rfl) h1
  clear hA0 hval0 hsz0 hsz
  refine (walk A0 c0 l0 a1 W w0 s0 w1).mono fun e W' ⟨he, bel⟩ => ?_
  subst he
  exact ⟨_, rfl, _, _, _, [], _, [], hW', trodAll_mk1 (shut_bool Try.underlying4 _), (trodAll_cons_mk (Below.trod laidOut (by kernel_rfl) (of_decide_eq_true (by kernel_rfl)) k0 bel lt0) (trodAll_cons_mk (shut_int Try.underlying5 w1) trodAll_mk0)), rfl, bel.frame _, fun h => by cases h⟩

theorem over : Rows.slotErasedRow.holds Try.pinned (OpenSpec.ofChange Rows.slotErasedSpec) :=
  OpenClaim.holds_of_wide 6 Try.f6 rfl rfl rfl rfl rfl rfl rfl ⟨rfl, rfl, rfl, rfl, rfl⟩ rfl rfl rfl rfl rfl (by kernel_rfl) Try.func6 (by kernel_rfl)
    (of_decide_eq_true (by kernel_rfl)) (by unfold Func.isWrapper; first | (rw [if_pos (by decide +kernel)]; kernel_rfl) | (rw [if_neg (by decide +kernel)]; exact ⟨rfl, rfl⟩))
    (fun os started H enc _ => lifted os started H enc)

end Go.Proofs.Ytijbpafmokbnaaa.slotErased
namespace Go.Proofs.Ytijbpafmokbnaaa
/-- The statement. -/
theorem slotErased_holds : Rows.SlotErasedSaid := slotErased.over
#print axioms slotErased_holds
end Go.Proofs.Ytijbpafmokbnaaa

