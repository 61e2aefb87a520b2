/- For every input SolveOne returns true, and every argument reads behind the call as it did before: no condition. -/
import Derived.Test.YtkgbmkbbkaifmaaRows
import Derived.ProofKit
import Derived.OpenShut
import Derived.SizedLaws
import Derived.ChangeOld
import Derived.Carry
import Derived.Test.YtkgbmkbbkaifmaaLawb
import Derived.Test.YtkgbmkbbkaifmaaLawm
import Derived.Test.YtkgbmkbbkaifmaaLwb
namespace Go.Proofs.Ytkgbmkbbkaifmaa.solveOne
open Go.ChangeShapes Go.WideShapes Go.ChangeAt Go.RowKit Go.Shelf Gw Pol

theorem own : ownKnob Try.prog.godebug = none := by kernel_rfl
theorem laidOut : laidOutB Try.prog = true := by kernel_rfl
def OnRel (wo : World) (R n : Nat) (l : Nat → List Nat) (b x : List Nat) (s i : Value) (wr : World) : Prop :=
  ∃ (k q : Nat) (y : Bool), k ≤ R ∧ s = .bool y ∧ i = .int .i64 (k : Int) ∧ (y = true ↔ ∀ i, i < k → Sv.dt n (mx l i) (co x) = co b i) ∧ wr = wo.drewN q
set_option maxRecDepth 100000 in
set_option maxHeartbeats 4000000 in
theorem walk (A0 : Option Addr) (c0 R0 : Nat) (P0 : Nat → Option Addr) (n0 : Nat → Nat) (l0 : Nat → List Nat) (A1 : Option Addr) (c1 : Nat) (l1 : List Nat) (A2 : Option Addr) (c2 : Nat) (l2 : List Nat) (w : World) (w0 : MIn w w.heap.size A0 c0 R0 P0 n0 l0) (s0 : c0 ≤ 5864062014634) (b0 : ∀ i, BB (l0 i)) (w1 : In w w.heap.size A1 c1 l1) (_s1 : c1 ≤ 140737488351232) (w2 : In w w.heap.size A2 c2 l2) (_s2 : c2 ≤ 140737488351232) :
    Calls Try.prog 6 #[.slice A0 R0 c0, .slice A1 l1.length c1, .slice A2 l2.length c2] w fun e w' => e = .returned (.bool true) ∧ Below w.heap.size w w' := by
  have hcap := w0.cap
  have hcap1 := w1.cap
  have hcap2 := w2.cap
  have AN := Lib.hid answers_any
  by_cases hsm : R0 ≤ 30 ∧ ∀ i, i < R0 → (l0 i).length ≤ 30
  · have HS := Lib.hid (lsmall_any A0 c0 R0 _ P0 n0 l0 w w0 (by omega) true ⟨fun _ => hsm, fun _ => rfl⟩)
    obtain ⟨hR, hl30⟩ := hsm
    have HL := Lib.hid hl30
    clear hl30
    by_cases hr : ∀ i, i < R0 → (l0 i).length = (l0 0).length
    · have HLR := Lib.hid (lright_any A0 c0 R0 _ P0 n0 l0 w w0 (by omega) true ⟨fun _ => hr, fun _ => rfl⟩)
      by_cases hR0 : R0 = 0
      · subst hR0
        clear hr
        go_enter Try.func6, Try.ntmps6
        go_wp2_with (first
          | (go_at_call 7; refine HS.out.mono ?_; rintro e w1 ⟨rfl, rfl⟩)
          | (go_at_call 11; refine HLR.out.mono ?_; rintro e w4 ⟨rfl, q, rfl⟩)
          | (go_at_call 8; refine (AN.out _).mono ?_; rintro e w6 ⟨rfl, hB6⟩))
        go_ret
        exact ⟨rfl, drewN_below (n := q) hB6⟩
      · obtain ⟨b, off, Ar, cr, n, rfl, hn, hc0, hnc⟩ := MIn.len w0 (i := 0) (by omega)
        rw [Nat.add_zero] at hc0
        rw [← hn] at hr
        have hn30 : n ≤ 30 := by rw [hn]; exact HL.out 0 (by omega)
        clear hn
        have z0 : ((R0 : Int) == 0) = false := beq_eq_false_iff_ne.2 (by omega)
        have hRp : 0 < R0 := by omega
        by_cases hx1 : l1.length = R0
        · have z1 : ((R0 : Int) == (R0 : Int)) = true := by simp
          have HX1 := Lib.hid hx1
          rw [hx1] at hcap1 ⊢
          clear hx1
          by_cases hx : l2.length = n
          · have z2 : ((n : Int) == (n : Int)) = true := by simp
            have HH := Lib.hid hr
            have HX := Lib.hid hx
            rw [hx] at hcap2 ⊢
            clear hr hx
            go_enter Try.func6, Try.ntmps6
            go_wp2_with (first
              | (go_at_call 7; refine HS.out.mono ?_; rintro e w1 ⟨rfl, rfl⟩)
              | (go_at_call 11; refine HLR.out.mono ?_; rintro e w4 ⟨rfl, q, rfl⟩)
              | (go_at_call 10; refine (new_any _).mono ?_; rintro e W ⟨rfl, hF, hB⟩; have bW := drewN_below (n := q) hB; have sW := bW.size; have mW := (w0.below bW).more sW; have iW := (w1.below bW).more sW; have jW := (w2.below bW).more sW; have hlf := hF.lt))
            clear HS HLR hc0 hnc w0 w1 w2 hB
            have hBB : BB l1 := iW.bb
            have hM : Sv.Bm (mx l0) := fun i j => co_lt (b0 i) j
            have hbb : ∀ i, co l1 i < 256 := fun i => co_lt hBB i
            have hvb : ∀ i, co l2 i < 256 := fun i => co_lt jW.bb i
            have HUQ := Lib.hid (fun X (hn : n ∉ (Sv.red R0 (Sv.aug n (mx l0) (co l1)) (n + 1)).2) (hX : Sv.IsX _ _ n _ X) (hr : n ≤ _) => Sv.uniq (R := R0) (v := co l2) hM hbb hvb hr hn hX)
            have HSO := Lib.hid (fun X (hn : n ∉ (Sv.red R0 (Sv.aug n (mx l0) (co l1)) (n + 1)).2) (hX : Sv.IsX _ _ n _ X) => Sv.solves (R := R0) hM hbb hn hX)
            have HRK := Lib.hid (fun W (hF : IsField W w.heap.size) (h : MIn W W.heap.size (some ⟨b, off, none⟩) c0 R0 P0 n0 l0) => rank_any w.heap.size (some ⟨b, off, none⟩) c0 R0 n P0 n0 l0 W hF h HH.out (by omega) (by omega) b0)
            obtain ⟨rk, hrk⟩ : ∃ rk, rk = (Sv.red R0 (mx l0) n).2.length := ⟨_, rfl⟩
            rw [← hrk] at HRK HUQ
            clear hBB hM hbb hvb hrk
            refine (solve_any _ (some ⟨b, off, none⟩) A1 c0 R0 n c1 P0 n0 l0 l1 W hF mW iW HH.out HX1.out (fun h => absurd h hR0) (by omega) (by omega) b0).mono ?_
            rintro e w4 ⟨hB4, ⟨hin, rfl⟩ | ⟨hnin, X, Ay, cy, hX, rfl, hOy⟩⟩
            · go_wp2_with (go_at_call 8; refine (AN.out _).mono ?_; rintro e w6 ⟨rfl, hB6⟩)
              go_ret
              exact ⟨rfl, bW.trans ((hB4.trans (hB6.mono hB4.size)).mono sW)⟩
            have s4 := hB4.size
            have m4 := (mW.below hB4).more s4
            have F4 := hF.below hB4 hlf
            have HU := Lib.hid (HUQ.out X hnin hX)
            have HO := Lib.hid (HSO.out X hnin hX)
            clear HUQ HSO hX hnin
            by_cases hlr : rk < n
            · have b1 : ((rk : Int) < (n : Int)) := by omega
              go_wp2_with (first
                | (go_at_call 15; refine (HRK.out w4 F4 m4).mono ?_; rintro e w5 ⟨rfl, hB5⟩; have s5 := hB5.size)
                | (go_at_call 8; refine (AN.out _).mono ?_; rintro e w6 ⟨rfl, hB6⟩))
              go_ret
              exact ⟨rfl, bW.trans (((hB4.trans (hB5.mono s4)).trans (hB6.mono (by omega))).mono sW)⟩
            · have b1 : ¬ ((rk : Int) < (n : Int)) := by omega
              have HIFF : Hid ((∀ i, i < R0 → Sv.dt n (mx l0 i) (co l2) = co l1 i) ↔ rg n X = l2) := Lib.hid (by
                have e2 : rg n (fun j => co l2 j) = l2 := by rw [← HX.out]; exact rg_of l2
                constructor
                · intro h; exact (rg_ext.2 fun j hj => (HU.out (by omega) h j hj).symm).trans e2
                · intro h i hi
                  rw [← HO.out i hi]
                  exact Sv.xs_congr n fun j hj => by rw [← h, rg_co X hj])
              clear HU HO
              go_wp2_with (go_at_call 15; refine (HRK.out w4 F4 m4).mono ?_; rintro e w5 ⟨rfl, hB5⟩)
              have s5 := hB5.size
              have B5 := hB4.trans (hB5.mono s4)
              have m5 := mW.below B5
              have i5 := iW.below B5
              have j5 := jW.below B5
              have o5 := hOy.kept hB5
              have HB5 := Lib.hid B5
              have HO5 := Lib.hid o5
              clear HRK B5 hB5 hB4 F4 m4 hF hOy o5
              go_loopw [10, 11] (OnRel w5 R0 n l0 l1 l2) (fun _ i _ => R0 - (intOf i).toNat)
              case atStart => exact ⟨0, 0, true, Nat.zero_le _, rfl, rfl, ⟨fun _ i hi => by omega, fun _ => rfl⟩, rfl⟩
              case round =>
                obtain ⟨k, q3, y, hk, rfl, rfl, hy, hwk⟩ := hrel
                have mk : MIn wr W.heap.size (some ⟨b, off, none⟩) c0 R0 P0 n0 l0 := by rw [hwk]; exact m5.drewN q3
                have ik : In wr W.heap.size A1 c1 l1 := by rw [hwk]; exact i5.drewN q3
                have jk : In wr W.heap.size A2 c2 l2 := by rw [hwk]; exact j5.drewN q3
                have HWK := Lib.hid hwk
                have HY := Lib.hid hy
                clear hwk hy
                by_cases hlt : k < R0
                · obtain ⟨wo, rfl⟩ : ∃ wo : World, wo = wr := ⟨_, rfl⟩
                  go_wp2
                  go_loopw [12, 13] (BiRel wo n (mx l0 k) (co l2)) (fun _ i _ => n - (intOf i).toNat)
                  case atStart => exact ⟨0, 0, Nat.zero_le _, rfl, rfl, rfl⟩
                  case round =>
                    obtain ⟨t, q2, ht, rfl, rfl, hw⟩ := hrel
                    have mr : MIn wr W.heap.size (some ⟨b, off, none⟩) c0 R0 P0 n0 l0 := by rw [hw]; exact mk.drewN q2
                    have ir : In wr W.heap.size A1 c1 l1 := by rw [hw]; exact ik.drewN q2
                    have jr : In wr W.heap.size A2 c2 l2 := by rw [hw]; exact jk.drewN q2
                    have HW := Lib.hid hw
                    clear hw
                    by_cases htn : t < n
                    · obtain ⟨b', off', b2, off2, cx, e1, h1, h2, h3⟩ := mr.byte hlt (HH.out k hlt) htn
                      injection e1 with e1
                      injection e1 with e2 e3
                      subst e2 e3
                      obtain ⟨b3, off3, rfl, hb3, h4, h5⟩ := jr.byte (j := t) (by rw [HX.out]; exact htn)
                      obtain ⟨x, hx⟩ : ∃ x, x = co (l0 k) t := ⟨_, rfl⟩
                      obtain ⟨z, hz⟩ : ∃ z, z = co l2 t := ⟨_, rfl⟩
                      obtain ⟨s, hs⟩ : ∃ s, s = Sv.dt t (mx l0 k) (co l2) := ⟨_, rfl⟩
                      have hsb : s < 256 := by rw [hs]; exact Sv.dt_lt _ _ _
                      rw [← hx] at h2 h3
                      rw [← hz] at h4 h5
                      rw [← hs]
                      have hxor : bits .xor .u8 (s : Int) (Gf.gm x z : Int) = ((s ^^^ Gf.gm x z : Nat) : Int) := u8_xor_nat _ _ hsb (Gf.gm_lt _ _)
                      have HD : Hid (s ^^^ Gf.gm x z = Sv.dt (t + 1) (mx l0 k) (co l2)) := Lib.hid (by rw [hs, hx, hz]; rfl)
                      clear hx hz hs
                      go_wp2
                      go_quiet ((go_at_call 14; exact Calls.quiet_of_same (rmul_q x z h3 h5 _)))
                      go_wp2
                      go_roundw
                      case rel => exact ⟨t + 1, q2 + nq, by omega, by rw [← HD.out], by go_num, by rw [HW.out, World.drewN_drewN]⟩
                      case measure => simp [intOf]; omega
                    · obtain rfl : n = t := by omega
                      obtain ⟨s, hs⟩ : ∃ s, s = Sv.dt n (mx l0 k) (co l2) := ⟨_, rfl⟩
                      have HSD := Lib.hid hs
                      rw [← hs]
                      obtain ⟨b3, off3, rfl, hb3, h4, h5⟩ := ir.byte (j := k) (by rw [HX1.out]; exact hlt)
                      obtain ⟨x, hx⟩ : ∃ x, x = co l1 k := ⟨_, rfl⟩
                      rw [← hx] at h4 h5
                      have HXX := Lib.hid hx
                      clear hs hx
                      have HWW : Hid (wr = w5.drewN (q3 + q2)) := Lib.hid (by rw [HW.out, HWK.out, World.drewN_drewN])
                      cases y with
                      | false =>
                        go_wp2
                        go_roundw
                        case rel => exact ⟨k + 1, q3 + q2, false, by omega, rfl, by go_num, ⟨fun h => Bool.noConfusion h, fun h => HY.out.2 fun i hi => h i (by omega)⟩, HWW.out⟩
                        case measure => simp [intOf]; omega
                      | true =>
                        by_cases e : s = x
                        · have b2 : ((s : Int) == (x : Int)) = true := by rw [e]; simp
                          have HE := Lib.hid e
                          clear e
                          go_wp2
                          go_roundw
                          case rel => exact ⟨k + 1, q3 + q2, true, by omega, rfl, by go_num, ⟨fun _ i hi => by
                            by_cases ei : i = k
                            · subst ei; rw [← HSD.out, ← HXX.out]; exact HE.out
                            · exact HY.out.1 rfl i (by omega), fun _ => rfl⟩, HWW.out⟩
                          case measure => simp [intOf]; omega
                        · have b2 : ((s : Int) == (x : Int)) = false := beq_eq_false_iff_ne.2 (by omega)
                          go_wp2
                          go_roundw
                          case rel => exact ⟨k + 1, q3 + q2, false, by omega, rfl, by go_num, ⟨fun h => Bool.noConfusion h, fun h => absurd (h k (by omega)) (by rw [← HSD.out, ← HXX.out]; exact e)⟩, HWW.out⟩
                          case measure => simp [intOf]; omega
                · obtain rfl : R0 = k := by omega
                  have hyd : y = decide (rg n X = l2) := by
                    have h := HY.out.trans HIFF.out
                    cases y
                    · exact (decide_eq_false (fun e => Bool.noConfusion (h.2 e))).symm
                    · exact (decide_eq_true (h.1 rfl)).symm
                  have ok : Gw.Own wr W.heap.size 5 Ay cy (rg n X) := by rw [HWK.out]; exact HO5.out.drewN q3
                  have Bk : Below W.heap.size W wr := by rw [HWK.out]; exact Gw.Below.drewN HB5.out q3
                  have sk := Bk.size
                  obtain ⟨d, hd⟩ : ∃ d, d = decide (rg n X = l2) := ⟨_, rfl⟩
                  have HSM := Lib.hid (fun W' (h1 : In W' W'.heap.size Ay cy (rg n X)) (h2 : In W' W.heap.size A2 c2 l2) => same' Ay A2 cy c2 n n (rg n X) l2 W' _ _ (rg_len _ _).symm HX.out.symm h1 h2)
                  rw [← hd] at hyd HSM
                  clear hd HY HIFF HO5
                  subst hyd
                  have bd : (y == y) = true := by simp
                  have HOK := Lib.hid ok
                  clear ok
                  go_wp2_with (first
                    | (go_at_call 8; refine (AN.out _).mono ?_; rintro e w6 ⟨rfl, hB6⟩; have o6 := (HOK.out.kept hB6).inn; have j6 := jk.below (hB6.mono sk))
                    | (go_at_call 16; refine (HSM.out w6 o6 j6).mono ?_; rintro e w8 ⟨rfl, rfl⟩))
                  go_ret
                  exact ⟨rfl, bW.trans ((Bk.trans (hB6.mono sk)).mono sW)⟩
          · have z2 : ((l2.length : Int) == (n : Int)) = false := beq_eq_false_iff_ne.2 (by omega)
            clear hr
            go_enter Try.func6, Try.ntmps6
            go_wp2_with (first
              | (go_at_call 7; refine HS.out.mono ?_; rintro e w1 ⟨rfl, rfl⟩)
              | (go_at_call 11; refine HLR.out.mono ?_; rintro e w4 ⟨rfl, q, rfl⟩)
              | (go_at_call 8; refine (AN.out _).mono ?_; rintro e w6 ⟨rfl, hB6⟩))
            go_ret
            exact ⟨rfl, drewN_below (n := q) hB6⟩
        · have z1 : ((l1.length : Int) == (R0 : Int)) = false := beq_eq_false_iff_ne.2 (by omega)
          clear hr
          go_enter Try.func6, Try.ntmps6
          go_wp2_with (first
            | (go_at_call 7; refine HS.out.mono ?_; rintro e w1 ⟨rfl, rfl⟩)
            | (go_at_call 11; refine HLR.out.mono ?_; rintro e w4 ⟨rfl, q, rfl⟩)
            | (go_at_call 8; refine (AN.out _).mono ?_; rintro e w6 ⟨rfl, hB6⟩))
          go_ret
          exact ⟨rfl, drewN_below (n := q) hB6⟩
    · have HLR := Lib.hid (lright_any A0 c0 R0 _ P0 n0 l0 w w0 (by omega) false ⟨fun h => Bool.noConfusion h, fun h => absurd h hr⟩)
      clear hr
      go_enter Try.func6, Try.ntmps6
      go_wp2_with (first
        | (go_at_call 7; refine HS.out.mono ?_; rintro e w1 ⟨rfl, rfl⟩)
        | (go_at_call 11; refine HLR.out.mono ?_; rintro e w4 ⟨rfl, q, rfl⟩)
        | (go_at_call 8; refine (AN.out _).mono ?_; rintro e w6 ⟨rfl, hB6⟩))
      go_ret
      exact ⟨rfl, drewN_below (n := q) hB6⟩
  · have HS := Lib.hid (lsmall_any A0 c0 R0 _ P0 n0 l0 w w0 (by omega) false ⟨fun h => Bool.noConfusion h, fun h => absurd h hsm⟩)
    clear hsm
    go_enter Try.func6, Try.ntmps6
    go_wp2_with (first
      | (go_at_call 7; refine HS.out.mono ?_; rintro e w1 ⟨rfl, rfl⟩)
      | (go_at_call 8; refine (AN.out _).mono ?_; rintro e w6 ⟨rfl, hB6⟩))
    go_ret
    exact ⟨rfl, hB6⟩

set_option maxRecDepth 100000 in
theorem lifted (os : Os) (started : os.Started) (H : Type) (enc : TypeId × Value → H) :
    ReturnsInHanded {} Try.checked os 6 .any (Rows.solveOneSpec.pre6 enc Try.prog Try.f6 Rows.solveOneRow.domain false) (Rows.solveOneSpec.post enc Try.prog Try.f6 false true false false) := by
  refine returnsInHanded_of_change_sized (C := Try.checked) own started (by kernel_rfl) Try.func6
    (ChangeSpec.witness6 (enc := enc) (C := Try.checked) false ⟨#[], #[.slice none 0 0, .slice none 0 0, .slice none 0 0], []⟩ 8 (by kernel_rfl) (by kernel_rfl) (by kernel_rfl) (by kernel_rfl)) ?_
  intro W base args ds gs before hval0 hW _hcnd hsz0 _
  have hval : ∀ (j : Nat) t v, Try.f6.params[j]? = some t → args[j]? = some v → Value.okWide Try.prog W .any base t v := hval0
  have hW' := hW
  obtain ⟨p, q, hA0, hV, rfl, _hfz, _hnd⟩ := hW
  have hA : DataW.TrodAll enc Try.prog W 0 (fun _ => true) true Try.f6.params.toList args.toList ds p := hA0
  have hsz : (DataW.weightsEach Try.prog (Try.f6.params.toList ++ Rows.solveOneSpec.plain.varTypes Try.prog) (ds ++ gs)).all (· ≤ reachBytes) = true := hsz0
  rw [Try.params6] at hA hval hsz
  obtain ⟨v0, vs0, d0, ds0, p0, q0, hargs, rfl, rfl, h0, r0⟩ := trodAll_cons hA
  obtain ⟨v1, vs1, d1, ds1, p1, q1, rfl, rfl, rfl, h1, r1⟩ := trodAll_cons r0
  obtain ⟨v2, vs2, d2, ds2, p2, q2, rfl, rfl, rfl, h2, r2⟩ := trodAll_cons r1
  obtain ⟨rfl, rfl, rfl⟩ := trodAll_nil r2
  obtain rfl : args = #[v0, v1, v2] := by cases args; simp_all
  obtain ⟨rfl, rfl⟩ := trodVars_none hV
  have k0 := h0
  have lt0 : ∀ x ∈ p0, x.block < W.heap.size := by obtain ⟨m, hm⟩ := k0; exact DataW.trod_lt m _ _ _ hm
  obtain ⟨A0, c0, R0, P0, n0, l0, rfl, w0, b0, sz0⟩ := open_rows Try.underlying22 Try.underlying23 Try.underlying5 (by kernel_rfl) (by kernel_rfl) (hval 0 22 v0 rfl rfl) h0
  have s0 := sized_rows hsz (j := 0) (t := 22) (e := 23) rfl rfl Try.underlying22 (by kernel_rfl) sz0
  have k1 := h1
  have lt1 : ∀ x ∈ p1, x.block < W.heap.size := by obtain ⟨m, hm⟩ := k1; exact DataW.trod_lt m _ _ _ hm
  obtain ⟨A1, c1, l1, rfl, w1, sz1⟩ := open_bytes Try.underlying23 Try.underlying5 (by kernel_rfl) (hval 1 23 v1 rfl rfl) h1
  have s1 := sized_bytes hsz (j := 1) (t := 23) (e := 5) rfl rfl Try.underlying23 (by kernel_rfl) sz1
  have k2 := h2
  have lt2 : ∀ x ∈ p2, x.block < W.heap.size := by obtain ⟨m, hm⟩ := k2; exact DataW.trod_lt m _ _ _ hm
  obtain ⟨A2, c2, l2, rfl, w2, sz2⟩ := open_bytes Try.underlying23 Try.underlying5 (by kernel_rfl) (hval 2 23 v2 rfl rfl) h2
  have s2 := sized_bytes hsz (j := 2) (t := 23) (e := 5) rfl rfl Try.underlying23 (by kernel_rfl) sz2
  clear hA0 hval0 hsz0 hsz
  refine (walk A0 c0 R0 P0 n0 l0 A1 c1 l1 A2 c2 l2 W w0 s0 b0 w1 s1 w2 s2).mono fun e W' ⟨he, bel⟩ => ?_
  subst he
  exact ⟨_, rfl, _, _, _, [], _, [], hW', trodAll_mk1 (shut_bool Try.underlying4 _), (trodAll_cons_mk (Below.trod laidOut (by kernel_rfl) (of_decide_eq_true (by kernel_rfl)) k0 bel lt0) (trodAll_cons_mk (Below.trod laidOut (by kernel_rfl) (of_decide_eq_true (by kernel_rfl)) k1 bel lt1) (trodAll_cons_mk (Below.trod laidOut (by kernel_rfl) (of_decide_eq_true (by kernel_rfl)) k2 bel lt2) trodAll_mk0))), rfl, bel.frame _, fun h => by cases h⟩

theorem over : Rows.solveOneRow.holds Try.pinned (OpenSpec.ofChange Rows.solveOneSpec) :=
  OpenClaim.holds_of_wide 6 Try.f6 rfl rfl rfl rfl rfl rfl rfl ⟨rfl, rfl, rfl, rfl, rfl⟩ rfl rfl rfl rfl rfl (by kernel_rfl) Try.func6 (by kernel_rfl)
    (of_decide_eq_true (by kernel_rfl)) (by unfold Func.isWrapper; first | (rw [if_pos (by decide +kernel)]; kernel_rfl) | (rw [if_neg (by decide +kernel)]; exact ⟨rfl, rfl⟩))
    (fun os started H enc _ => lifted os started H enc)

end Go.Proofs.Ytkgbmkbbkaifmaa.solveOne
namespace Go.Proofs.Ytkgbmkbbkaifmaa
/-- The statement. -/
theorem solveOne_holds : Rows.SolveOneSaid := solveOne.over
#print axioms solveOne_holds
end Go.Proofs.Ytkgbmkbbkaifmaa

