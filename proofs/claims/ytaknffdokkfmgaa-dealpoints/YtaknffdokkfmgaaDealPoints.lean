/- For every input DealPoints returns true, and every argument reads behind the call as it did before: no condition. -/
import Derived.ProofKit
import Derived.OpenShut
import Derived.SizedLaws
import Derived.ChangeOld
import Derived.Carry
import Derived.Test.YtaknffdokkfmgaaRows
import Derived.Test.YtaknffdokkfmgaaJ2
import Derived.Test.YtaknffdokkfmgaaJ4
import Derived.Test.YtaknffdokkfmgaaJ5
import Derived.Test.YtaknffdokkfmgaaJ14
namespace Go.Proofs.Ytaknffdokkfmgaa.dealPoints
open Go.ChangeShapes Go.WideShapes Go.ChangeAt Go.RowKit Go.Shelf Gw Pol

theorem own : ownKnob Try.prog.godebug = none := by kernel_rfl
theorem laidOut : laidOutB Try.prog = true := by kernel_rfl
set_option maxRecDepth 100000 in
set_option maxHeartbeats 4000000 in
theorem side_good (n t k e r : Nat) (ht1 : 1 ≤ t) (htk : t + k ≤ 255) (hnk : n + k ≤ 255) (hg0 : goodB n t k e r = true) (A1 : Option Addr) (c1 N : Nat) (z1 : List Int) (hN : N = z1.length) (kind : Int) (hkw : (Lit.int .i64 kind).wf = true) (q3 C : Nat) (hq3 : q3 < 65536) (hC : C = q3 % 4097) (w : World) (wi : InZ w w.heap.size A1 c1 z1) (hcb : c1 ≤ 17592186043904) :
    Calls Try.prog 4 #[pv n t k e r, .slice A1 N c1, .int .i64 kind, .int .u16 (q3 : Int)] w fun e w' => e = .returned (.bool true) ∧ Below w.heap.size w w' := by
  have hcap := wi.cap
  rw [← hN] at hcap
  have eC : (q3 : Int) % 4097 = (C : Int) := by omega
  have eCw : IntKind.u16.wrap (C : Int) = (C : Int) := by rw [IntKind.wrap_u16]; omega
  have hCb : C ≤ 4096 := by omega
  obtain ⟨E, hE⟩ : ∃ E, E = eachN t k kind := ⟨_, rfl⟩
  have hEb : E ≤ 255 := by rw [hE]; unfold eachN; split <;> (try split) <;> (try split) <;> omega
  obtain ⟨V, hV⟩ : ∃ V, V = E * C := ⟨_, rfl⟩
  have eV : (E : Int) * (C : Int) = (V : Int) := by rw [hV]; simp
  have hVb : V ≤ 255 * 4096 := by rw [hV]; exact Nat.mul_le_mul hEb hCb
  have eVw : IntKind.i64.wrap (V : Int) = (V : Int) := by rw [IntKind.wrap_i64]; omega
  obtain ⟨σ, hσ⟩ : ∃ σ, σ = str (xsL z1) := ⟨_, rfl⟩
  obtain ⟨τ, hτ⟩ : ∃ τ, τ = str (secL n k) := ⟨_, rfl⟩
  have HSG := Lib.hid hσ
  have HTA := Lib.hid hτ
  have HV := Lib.hid (show V = eachN t k kind * C by rw [hV, hE])
  have HE := Lib.hid hE
  have hpb1 := Pbx.new w 23 n t k e r
  have hb1 : Below w.heap.size w (w.alloc (.cells #[.int .i64 (n : Int), .int .i64 (t : Int), .int .i64 (k : Int), .int .i64 (e : Int), .int .i64 (r : Int)] 23)) := (Below.refl _ w).alloc (Nat.le_refl _) _
  have HG := Lib.hid (rgood_any n t k e r (w.alloc (.cells #[.int .i64 (n : Int), .int .i64 (t : Int), .int .i64 (k : Int), .int .i64 (e : Int), .int .i64 (r : Int)] 23)))
  rw [hg0] at HG
  have HN := Lib.hid hN
  clear hσ hτ hE hV hC hN
  go_enter Try.func4, Try.ntmps4
  go_wp2_with fail
  refine HG.out.mono ?_
  rintro _ w2 ⟨rfl, hb2⟩
  have HPB := Lib.hid (hpb1.below hb2 hpb1.lt)
  have HPL := Lib.hid HPB.out.lt
  have HB2 := Lib.hid (hb1.trans (hb2.mono hb1.size))
  have hIZ := (wi.below HB2.out).more HB2.out.size
  have HIZ := Lib.hid hIZ
  clear hpb1 hb1 hb2 HG wi
  go_wp2
  go_loop [9] (fun i => ∃ q : Nat, q ≤ N ∧ i = .int .i64 (q : Int) ∧ ∀ x ∈ z1.take q, 0 ≤ x ∧ x ≤ 300) (fun i => N - (intOf i).toNat)
  case atStart => exact ⟨0, Nat.zero_le _, rfl, fun x hx => by simp at hx⟩
  case round =>
    obtain ⟨q, hq, rfl, hall⟩ := hrel
    by_cases hlt : q < N
    · have hqz : q < z1.length := by rw [← HN.out]; exact hlt
      obtain ⟨hwf, b, off, hA, hb, hcell⟩ := hIZ.sl q z1[q] (List.getElem?_eq_getElem hqz)
      subst hA
      have HNX := Lib.hid (show 0 ≤ z1[q] ∧ z1[q] ≤ 300 → ∀ x ∈ z1.take (q + 1), 0 ≤ x ∧ x ≤ 300 from fun hz x hx => by
        rw [List.take_add_one, List.getElem?_eq_getElem hqz] at hx
        rcases List.mem_append.1 hx with hx | hx
        · exact hall x hx
        · have hxe : x = z1[q] := by simpa using hx
          rw [hxe]; exact hz)
      obtain ⟨x, hx⟩ : ∃ x, x = z1[q] := ⟨_, rfl⟩
      rw [← hx] at hcell HNX
      clear hwf hx hall hIZ
      by_cases h0 : x < 0
      · clear HNX
        go_wp2_with fail
        refine (answers_any _).mono ?_
        rintro _ w6 ⟨rfl, hb6⟩
        go_wp2
        go_ret
        exact ⟨rfl, HB2.out.trans (hb6.mono HB2.out.size)⟩
      · by_cases h3 : 300 < x
        · clear HNX
          go_wp2_with fail
          refine (answers_any _).mono ?_
          rintro _ w6 ⟨rfl, hb6⟩
          go_wp2
          go_ret
          exact ⟨rfl, HB2.out.trans (hb6.mono HB2.out.size)⟩
        · have HNY := Lib.hid (HNX.out ⟨by omega, by omega⟩)
          clear HNX
          go_wp2
          go_round
          case rel => exact ⟨q + 1, by omega, by go_num, HNY.out⟩
          case measure => simp [intOf]; omega
    · obtain rfl : q = N := by omega
      have HZ := Lib.hid (show ∀ x ∈ z1, 0 ≤ x ∧ x ≤ 300 by rw [HN.out, List.take_length] at hall; exact hall)
      clear hall hIZ
      have HQB := Lib.hid (show q ≤ 17592186043904 by omega)
      go_wp2
      rename_i K1 hK1 _
      refine Gt.regionA [Gt.Is (.bool true), Gt.Is (.bool true), Gt.Is (pv (n : Int) (t : Int) (k : Int) (e : Int) (r : Int)), Gt.Is (.slice A1 q c1), NIs q (xsL z1), Gt.Is (.string σ), Gt.Is (.slice A1 q c1), OIs w2.heap.size q (xsL z1), Gt.Is (.string σ), Gt.Is (.bool true), Gt.Is (.bool true), Gt.Is (.bool true), Gt.Is (pv (n : Int) (t : Int) (k : Int) (e : Int) (r : Int)), OIs w2.heap.size k (secL n k), Gt.Is (.string τ), Gt.Is (pv (n : Int) (t : Int) (k : Int) (e : Int) (r : Int)), OIs w2.heap.size k (secL n k), Gt.Is (.string τ), Gt.Is (.bool true), Gt.Is (.bool true), Gt.Is (.bool true), Gt.Is (pv (n : Int) (t : Int) (k : Int) (e : Int) (r : Int)), Gt.Is (.int .i64 kind), Gt.Is (.int .i64 (C : Int)), Gt.Is (.int .i64 (V : Int)), Gt.Is (pv (n : Int) (t : Int) (k : Int) (e : Int) (r : Int)), Gt.Is (.int .i64 kind), Gt.Is (.int .i64 (E : Int)), Gt.Is (.int .i64 (C : Int)), Gt.Is (.int .i64 (V : Int)), Gt.Is (.bool true), Gt.Is (.bool true), Gt.Is (.bool true)] 69
        [⟨[], [], none⟩, ⟨[(0, 37)], [], none⟩, ⟨[(1, 38)], [4], some (38, true)⟩, ⟨[(1, 38)], [1], some (38, true)⟩, ⟨[(1, 38), (2, 39), (3, 40)], [], some (38, true)⟩, ⟨[(1, 38), (4, 41)], [], some (38, true)⟩, ⟨[(1, 38)], [1], some (38, true)⟩, ⟨[(1, 38), (6, 43)], [], some (38, true)⟩, ⟨[(1, 38), (7, 44)], [], some (38, true)⟩, ⟨[(1, 38), (5, 42), (8, 45)], [], some (38, true)⟩, ⟨[(1, 38), (9, 46)], [], none⟩, ⟨[(10, 47)], [], none⟩, ⟨[(11, 48)], [4], some (48, true)⟩, ⟨[(11, 48), (12, 49)], [], some (48, true)⟩, ⟨[(11, 48), (13, 50)], [], some (48, true)⟩, ⟨[(11, 48)], [4], some (48, true)⟩, ⟨[(11, 48), (15, 52)], [], some (48, true)⟩, ⟨[(11, 48), (16, 53)], [], some (48, true)⟩, ⟨[(11, 48), (14, 51), (17, 54)], [], some (48, true)⟩, ⟨[(11, 48), (18, 55)], [], none⟩, ⟨[(19, 56)], [], none⟩, ⟨[(20, 57)], [4], some (57, true)⟩, ⟨[(20, 57)], [2], some (57, true)⟩, ⟨[(20, 57)], [10], some (57, true)⟩, ⟨[(20, 57), (21, 58), (22, 59), (23, 60)], [], some (57, true)⟩, ⟨[(20, 57)], [4], some (57, true)⟩, ⟨[(20, 57)], [2], some (57, true)⟩, ⟨[(20, 57), (25, 62), (26, 63)], [], some (57, true)⟩, ⟨[(20, 57)], [10], some (57, true)⟩, ⟨[(20, 57), (27, 64), (28, 65)], [], some (57, true)⟩, ⟨[(20, 57), (24, 61), (29, 66)], [], some (57, true)⟩, ⟨[(20, 57), (30, 67)], [], none⟩, ⟨[(31, 68)], [], none⟩]
        [(0, 37), (1, 38), (2, 39), (3, 40), (4, 41), (5, 42), (6, 43), (7, 44), (8, 45), (9, 46), (10, 47), (11, 48), (12, 49), (13, 50), (14, 51), (15, 52), (16, 53), (17, 54), (18, 55), (19, 56), (20, 57), (21, 58), (22, 59), (23, 60), (24, 61), (25, 62), (26, 63), (27, 64), (28, 65), (29, 66), (30, 67), (31, 68), (32, 8)] (by kernel_rfl) (by kernel_rfl) (by kernel_rfl) (by kernel_rfl) ?_ ?_ ?_
      · simp only [Gt.Monos]
        repeat' apply And.intro
        all_goals (first | exact trivial | exact Gt.Is.mono _ | exact OIs.mono _ _ _ | exact NIs.mono _ _ | exact FIs.mono | exact MIs.mono _ _ | exact TIs.mono _ _ | exact ZIs.mono | exact EIs.mono | exact LIs.mono _ | exact SIs.mono _ _ | exact GIs.mono _ _ _)
      · simp only [Gt.Obs]
        repeat' apply And.intro
        all_goals try exact trivial
        all_goals (
          intro a w5 hg
          have hg' : Below w2.heap.size w2 w5 := hg
          simp only [Gt.Pre, Gt.Kept, Gt.Guarded, Gt.tys, List.getD_cons_zero, List.getD_cons_succ, Gt.Is, Nat.zero_add, Nat.reduceAdd]
          intros
          try (refine ⟨fun _ => ?_, fun hne => absurd (by assumption) hne⟩))
        all_goals (first
          | exact Gt.ok_move rfl (by assumption)
          | exact Gt.ok_assign rfl (by assumption)
          | exact Gt.ok_pick rfl (by assumption) (by rw [if_pos rfl]; assumption)
          | (exact Gt.ok_call (f := 11) rfl #[] (by kernel_rfl) (by simp) ((answers_any _).mono fun e w6 h => ⟨_, h.1, h.2, rfl⟩))
          | (exact Gt.ok_load rfl (by assumption) (HPB.out.below hg' HPL.out).load rfl)
          | (refine Gt.ok_call (f := 14) rfl #[pv (n : Int) (t : Int) (k : Int) (e : Int) (r : Int), .slice A1 q c1] (by kernel_rfl) (by simp [*]) ((dpoints_any n t k e r hg0 A1 c1 q z1 HN.out w5 ((HIZ.out.below hg').more hg'.size) HZ.out HQB.out).mono ?_)
             rintro e w6 ⟨A6, c6, rfl, hI6, hb6⟩
             exact ⟨_, rfl, hb6, A6, c6, rfl, hI6⟩)
          | (refine Gt.ok_call (f := 15) rfl #[.slice A1 q c1] (by kernel_rfl) (by simp [*]) ((rxs_any A1 c1 q z1 HN.out w5 ((HIZ.out.below hg').more hg'.size) HZ.out HQB.out).mono ?_)
             rintro e w6 ⟨A6, c6, rfl, ho6, hb6⟩
             exact ⟨_, rfl, hb6, A6, c6, rfl, ho6.base hg'.size⟩)
          | (refine Gt.ok_call (f := 16) rfl #[pv (n : Int) (t : Int) (k : Int) (e : Int) (r : Int)] (by kernel_rfl) (by simp [*]) ((dsec_any n t k e r hg0 w5).mono ?_)
             rintro e w6 ⟨A6, c6, rfl, ho6, hb6⟩
             exact ⟨_, rfl, hb6, A6, c6, rfl, ho6.base hg'.size⟩)
          | (refine Gt.ok_call (f := 17) rfl #[pv (n : Int) (t : Int) (k : Int) (e : Int) (r : Int)] (by kernel_rfl) (by simp [*]) ((rsec_any n k t e r hnk w5).mono ?_)
             rintro e w6 ⟨A6, c6, rfl, ho6, hb6⟩
             exact ⟨_, rfl, hb6, A6, c6, rfl, ho6.base hg'.size⟩)
          | (exact Gt.ok_call (f := 18) rfl #[pv (n : Int) (t : Int) (k : Int) (e : Int) (r : Int), .int .i64 kind, .int .i64 (C : Int)] (by kernel_rfl) (by simp [*]) ((dneed_any n t k e r C kind hg0 (by omega) hkw w5).mono fun e w6 h => ⟨_, h.1, h.2, by rw [← HV.out]; rfl⟩))
          | (exact Gt.ok_call (f := 19) rfl #[pv (n : Int) (t : Int) (k : Int) (e : Int) (r : Int), .int .i64 kind] (by kernel_rfl) (by simp [*]) ((reach_any n t k e r kind ht1 htk w5).mono fun e w6 h => ⟨_, h.1, h.2, by rw [← HE.out]; rfl⟩))
          | (obtain ⟨A6, c6, hv6, ho6⟩ : NIs q (xsL z1) (a.eval (.tmp 41)) w5 := by assumption
             have k5 := conv_sl (P := Try.prog) ho6.sl Try.underlying28 Try.underlying5 Try.underlying9 c6
             rw [xsL_len, ← HN.out, ← HSG.out] at k5
             exact Gt.ok_convert rfl hv6 k5 rfl)
          | (obtain ⟨A6, c6, hv6, ho6⟩ : OIs w2.heap.size q (xsL z1) (a.eval (.tmp 44)) w5 := by assumption
             have k5 := conv_sl (P := Try.prog) ho6.sl Try.underlying28 Try.underlying5 Try.underlying9 c6
             rw [xsL_len, ← HN.out, ← HSG.out] at k5
             exact Gt.ok_convert rfl hv6 k5 rfl)
          | (obtain ⟨A6, c6, hv6, ho6⟩ : OIs w2.heap.size k (secL n k) (a.eval (.tmp 50)) w5 := by assumption
             have k5 := conv_sl (P := Try.prog) ho6.sl Try.underlying28 Try.underlying5 Try.underlying9 c6
             rw [secL_len, ← HTA.out] at k5
             exact Gt.ok_convert rfl hv6 k5 rfl)
          | (obtain ⟨A6, c6, hv6, ho6⟩ : OIs w2.heap.size k (secL n k) (a.eval (.tmp 53)) w5 := by assumption
             have k5 := conv_sl (P := Try.prog) ho6.sl Try.underlying28 Try.underlying5 Try.underlying9 c6
             rw [secL_len, ← HTA.out] at k5
             exact Gt.ok_convert rfl hv6 k5 rfl)
          | (refine Gt.ok_run ?_ rfl
             simp only [execOp, *]
             go_simp
             done))
      · intro a w5 hg
        have hg' : Below w2.heap.size w2 w5 := hg
        simp only [Gt.Pre, Gt.tys, List.getD_cons_zero, List.getD_cons_succ, Gt.Is]
        intro h0 h1 h2 h3 h4 h5 h6 h7 h8 h9 h10 h11 h12 h13 h14 h15 h16 h17 h18 h19 h20 h21 h22 h23 h24 h25 h26 h27 h28 h29 h30 h31 h32
        show K1 _ _
        refine hK1 _ _ ?_
        obtain ⟨_, _, h4, _⟩ := h4
        obtain ⟨_, _, h7, _⟩ := h7
        obtain ⟨_, _, h13, _⟩ := h13
        obtain ⟨_, _, h16, _⟩ := h16
        simp only [Gt.puts, List.foldl_cons, List.foldl_nil, h0, h1, h2, h3, h4, h5, h6, h7, h8, h9, h10, h11, h12, h13, h14, h15, h16, h17, h18, h19, h20, h21, h22, h23, h24, h25, h26, h27, h28, h29, h30, h31, h32]
        simp only [Act.put, List.setIfInBounds_toArray, List.set_cons_zero, List.set_cons_succ]
        have HB5 := Lib.hid (HB2.out.trans (hg'.mono HB2.out.size))
        clear h0 h2 h3 h4 h5 h7 h8 h9 h10 h11 h12 h13 h14 h15 h16 h17 h18 h19 h20 h21 h22 h23 h24 h25 h26 h27 h28 h29 h30 h31 h32
        go_wp2
        go_ret
        exact ⟨rfl, HB5.out⟩
set_option maxRecDepth 100000 in
set_option maxHeartbeats 1000000 in
theorem side_bad (a0 T0 K0 E0 R0 kind : Int) (A1 : Option Addr) (c1 N : Nat) (q3 : Int) (w : World) (hbad : goodB a0 T0 K0 E0 R0 = false) :
    Calls Try.prog 4 #[pv a0 T0 K0 E0 R0, .slice A1 N c1, .int .i64 kind, .int .u16 q3] w fun e w' => e = .returned (.bool true) ∧ Below w.heap.size w w' := by
  have hb1 : Below w.heap.size w (w.alloc (.cells #[.int .i64 a0, .int .i64 T0, .int .i64 K0, .int .i64 E0, .int .i64 R0] 23)) := (Below.refl _ w).alloc (Nat.le_refl _) _
  have HG := Lib.hid (rgood_any a0 T0 K0 E0 R0 (w.alloc (.cells #[.int .i64 a0, .int .i64 T0, .int .i64 K0, .int .i64 E0, .int .i64 R0] 23)))
  rw [hbad] at HG
  clear hbad
  go_enter Try.func4, Try.ntmps4
  go_wp2_with fail
  refine HG.out.mono ?_
  rintro _ w2 ⟨rfl, hb2⟩
  have HB2 := Lib.hid (hb1.trans (hb2.mono hb1.size))
  clear hb1 hb2 HG
  go_wp2_with fail
  refine (answers_any _).mono ?_
  rintro _ w6 ⟨rfl, hb6⟩
  go_wp2
  go_ret
  exact ⟨rfl, HB2.out.trans (hb6.mono HB2.out.size)⟩
theorem walk (a0 T0 K0 E0 R0 : Int) (A1 : Option Addr) (c1 : Nat) (z1 : List Int) (a2 a3 : Int) (w : World) (_w0 : (Lit.int .i64 a0).wf = true ∧ (Lit.int .i64 T0).wf = true ∧ (Lit.int .i64 K0).wf = true ∧ (Lit.int .i64 E0).wf = true ∧ (Lit.int .i64 R0).wf = true) (w1 : InZ w w.heap.size A1 c1 z1) (s1 : c1 ≤ 17592186043904) (w2 : (Lit.int .i64 a2).wf = true) (w3 : (Lit.int .u16 a3).wf = true) :
    Calls Try.prog 4 #[pv a0 T0 K0 E0 R0, .slice A1 z1.length c1, .int .i64 a2, .int .u16 a3] w fun e w' => e = .returned (.bool true) ∧ Below w.heap.size w w' := by
  cases hg : goodB a0 T0 K0 E0 R0 with
  | false => exact side_bad a0 T0 K0 E0 R0 a2 A1 c1 z1.length a3 w hg
  | true =>
    obtain ⟨n, t, k, e, r, rfl, rfl, rfl, rfl, rfl, h1, h2, h3, h4, h5, h6⟩ := goodB_nat hg
    have h7 : 0 ≤ a3 ∧ a3 ≤ 65535 := by
      simp [Lit.wf, IntKind.min, IntKind.max, IntKind.signed, IntKind.bits] at w3
      omega
    obtain ⟨q3, rfl⟩ : ∃ q3 : Nat, a3 = (q3 : Int) := ⟨a3.toNat, by omega⟩
    exact side_good n t k e r h1 (by omega) h6 hg A1 c1 _ z1 rfl a2 w2 q3 _ (by omega) rfl w w1 s1

set_option maxRecDepth 100000 in
theorem lifted (os : Os) (started : os.Started) (H : Type) (enc : TypeId × Value → H) :
    ReturnsInHanded {} Try.checked os 4 .any (Rows.dealPointsSpec.pre6 enc Try.prog Try.f4 Rows.dealPointsRow.domain false) (Rows.dealPointsSpec.post enc Try.prog Try.f4 false true false false) := by
  refine returnsInHanded_of_change_sized (C := Try.checked) own started (by kernel_rfl) Try.func4
    (ChangeSpec.witness6 (enc := enc) (C := Try.checked) false ⟨#[], #[.agg #[.int .i64 0, .int .i64 0, .int .i64 0, .int .i64 0, .int .i64 0], .slice none 0 0, .int .i64 0, .int .u16 0], []⟩ 8 (by kernel_rfl) (by kernel_rfl) (by kernel_rfl) (by kernel_rfl)) ?_
  intro W base args ds gs before hval0 hW _hcnd hsz0 _
  have hval : ∀ (j : Nat) t v, Try.f4.params[j]? = some t → args[j]? = some v → Value.okWide Try.prog W .any base t v := hval0
  have hW' := hW
  obtain ⟨p, q, hA0, hV, rfl, _hfz, _hnd⟩ := hW
  have hA : DataW.TrodAll enc Try.prog W 0 (fun _ => true) true Try.f4.params.toList args.toList ds p := hA0
  have hsz : (DataW.weightsEach Try.prog (Try.f4.params.toList ++ Rows.dealPointsSpec.plain.varTypes Try.prog) (ds ++ gs)).all (· ≤ reachBytes) = true := hsz0
  rw [Try.params4] at hA hval hsz
  obtain ⟨v0, vs0, d0, ds0, p0, q0, hargs, rfl, rfl, h0, r0⟩ := trodAll_cons hA
  obtain ⟨v1, vs1, d1, ds1, p1, q1, rfl, rfl, rfl, h1, r1⟩ := trodAll_cons r0
  obtain ⟨v2, vs2, d2, ds2, p2, q2, rfl, rfl, rfl, h2, r2⟩ := trodAll_cons r1
  obtain ⟨v3, vs3, d3, ds3, p3, q3, rfl, rfl, rfl, h3, r3⟩ := trodAll_cons r2
  obtain ⟨rfl, rfl, rfl⟩ := trodAll_nil r3
  obtain rfl : args = #[v0, v1, v2, v3] := by cases args; simp_all
  obtain ⟨rfl, rfl⟩ := trodVars_none hV
  obtain ⟨a0, T0, K0, E0, R0, rfl, rfl, rfl, w0⟩ := open_five Try.underlying23 (by kernel_rfl) (by kernel_rfl) rfl rfl rfl rfl rfl Try.underlying3 (hval 0 23 v0 rfl rfl) h0
  have k1 := h1
  have lt1 : ∀ x ∈ p1, x.block < W.heap.size := by obtain ⟨m, hm⟩ := k1; exact DataW.trod_lt m _ _ _ hm
  obtain ⟨A1, c1, z1, rfl, w1, sz1⟩ := open_intz Try.underlying26 Try.underlying3 (by kernel_rfl) (hval 1 26 v1 rfl rfl) h1
  have s1 := sized_ints hsz (j := 1) (t := 26) (e := 3) rfl rfl Try.underlying26 (by kernel_rfl) sz1
  obtain ⟨a2, rfl, rfl, rfl, w2⟩ := open_int Try.underlying3 (hval 2 3 v2 rfl rfl) h2
  obtain ⟨a3, rfl, rfl, rfl, w3⟩ := open_int Try.underlying27 (hval 3 27 v3 rfl rfl) h3
  clear hA0 hval0 hsz0 hsz
  refine (walk a0 T0 K0 E0 R0 A1 c1 z1 a2 a3 W w0 w1 s1 w2 w3).mono fun e W' ⟨he, bel⟩ => ?_
  subst he
  exact ⟨_, rfl, _, _, _, [], _, [], hW', trodAll_mk1 (shut_bool Try.underlying4 _), (trodAll_cons_mk (shut_five Try.underlying23 (by kernel_rfl) (by kernel_rfl) rfl rfl rfl rfl rfl Try.underlying3 w0) (trodAll_cons_mk (Below.trod laidOut (by kernel_rfl) (of_decide_eq_true (by kernel_rfl)) k1 bel lt1) (trodAll_cons_mk (shut_int Try.underlying3 w2) (trodAll_cons_mk (shut_int Try.underlying27 w3) trodAll_mk0)))), rfl, bel.frame _, fun h => by cases h⟩

theorem over : Rows.dealPointsRow.holds Try.pinned (OpenSpec.ofChange Rows.dealPointsSpec) :=
  OpenClaim.holds_of_wide 4 Try.f4 rfl rfl rfl rfl rfl rfl rfl ⟨rfl, rfl, rfl, rfl, rfl⟩ rfl rfl rfl rfl rfl (by kernel_rfl) Try.func4 (by kernel_rfl)
    (of_decide_eq_true (by kernel_rfl)) (by unfold Func.isWrapper; first | (rw [if_pos (by decide +kernel)]; kernel_rfl) | (rw [if_neg (by decide +kernel)]; exact ⟨rfl, rfl⟩))
    (fun os started H enc _ => lifted os started H enc)

end Go.Proofs.Ytaknffdokkfmgaa.dealPoints
namespace Go.Proofs.Ytaknffdokkfmgaa
/-- The statement. -/
theorem dealPoints_holds : Rows.DealPointsSaid := dealPoints.over
#print axioms dealPoints_holds
end Go.Proofs.Ytaknffdokkfmgaa

