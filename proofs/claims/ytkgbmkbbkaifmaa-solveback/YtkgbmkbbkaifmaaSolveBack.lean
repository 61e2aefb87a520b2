/- For every input SolveBack returns true, and every argument reads behind the call as it did before: no condition. -/
import Derived.Test.YtkgbmkbbkaifmaaRows
import Derived.ProofKit
import Derived.OpenShut
import Derived.SizedLaws
import Derived.ChangeOld
import Derived.Carry
import Derived.Test.YtkgbmkbbkaifmaaLawb
import Derived.Test.YtkgbmkbbkaifmaaLawm
import Derived.Test.YtkgbmkbbkaifmaaLwb
namespace Go.Proofs.Ytkgbmkbbkaifmaa.solveBack
open Go.ChangeShapes Go.WideShapes Go.ChangeAt Go.RowKit Go.Shelf Gw Pol

theorem own : ownKnob Try.prog.godebug = none := by kernel_rfl
theorem laidOut : laidOutB Try.prog = true := by kernel_rfl
def DD (n : Nat) (l : Nat → List Nat) (x : List Nat) : Nat → Nat := fun i => Sv.dt n (mx l i) (co x)
def BkRel (w : World) (R n : Nat) (l : Nat → List Nat) (x : List Nat) (v i : Value) (wr : World) : Prop :=
  ∃ (k : Nat) (A : Option Addr) (c : Nat), k ≤ R ∧ v = .slice A k c ∧ i = .int .i64 (k : Int) ∧ Gw.Own wr w.heap.size 5 A c (rg k (DD n l x)) ∧ Below w.heap.size w wr
set_option maxRecDepth 100000 in
set_option maxHeartbeats 4000000 in
theorem walk (A0 : Option Addr) (c0 R0 : Nat) (P0 : Nat → Option Addr) (n0 : Nat → Nat) (l0 : Nat → List Nat) (A1 : Option Addr) (c1 : Nat) (l1 : List Nat) (w : World) (w0 : MIn w w.heap.size A0 c0 R0 P0 n0 l0) (s0 : c0 ≤ 5864062014634) (b0 : ∀ i, BB (l0 i)) (w1 : In w w.heap.size A1 c1 l1) (_s1 : c1 ≤ 140737488351232) :
    Calls Try.prog 5 #[.slice A0 R0 c0, .slice A1 l1.length c1] w fun e w' => e = .returned (.bool true) ∧ Below w.heap.size w w' := by
  have hcap := w0.cap
  have hcap1 := w1.cap
  have AN := Lib.hid answers_any
  by_cases hsm : R0 ≤ 30 ∧ ∀ i, i < R0 → (l0 i).length ≤ 30
  · have HS := Lib.hid (lsmall_any A0 c0 R0 _ P0 n0 l0 w w0 (by omega) true ⟨fun _ => hsm, fun _ => rfl⟩)
    obtain ⟨hR, hl30⟩ := hsm
    have HL := Lib.hid hl30
    clear hl30
    by_cases hr : ∀ i, i < R0 → (l0 i).length = (l0 0).length
    · have HLR := Lib.hid (lright_any A0 c0 R0 _ P0 n0 l0 w w0 (by omega) true ⟨fun _ => hr, fun _ => rfl⟩)
      by_cases hR0 : R0 = 0
      · subst hR0
        clear hr
        go_enter Try.func5, Try.ntmps5
        go_wp2_with (first
          | (go_at_call 7; refine HS.out.mono ?_; rintro e w1 ⟨rfl, rfl⟩)
          | (go_at_call 11; refine HLR.out.mono ?_; rintro e w4 ⟨rfl, q, rfl⟩)
          | (go_at_call 8; refine (AN.out _).mono ?_; rintro e w6 ⟨rfl, hB6⟩))
        go_ret
        exact ⟨rfl, drewN_below (n := q) hB6⟩
      · obtain ⟨b, off, Ar, cr, n, rfl, hn, hc0, hnc⟩ := MIn.len w0 (i := 0) (by omega)
        rw [Nat.add_zero] at hc0
        rw [← hn] at hr
        have hn30 : n ≤ 30 := by rw [hn]; exact HL.out 0 (by omega)
        clear hn
        have z0 : ((R0 : Int) == 0) = false := beq_eq_false_iff_ne.2 (by omega)
        have hRp : 0 < R0 := by omega
        by_cases hx : l1.length = n
        · have z1 : ((n : Int) == (n : Int)) = true := by simp
          have HH := Lib.hid hr
          have HX := Lib.hid hx
          rw [hx] at hcap1 ⊢
          clear hr hx
          obtain ⟨i0, hi0, hz0, hz1, hz2⟩ := info_parts pbyte_info
          go_enter Try.func5, Try.ntmps5
          go_wp2_with (first
            | (go_at_call 7; refine HS.out.mono ?_; rintro e w1 ⟨rfl, rfl⟩)
            | (go_at_call 11; refine HLR.out.mono ?_; rintro e w4 ⟨rfl, q, rfl⟩))
          obtain ⟨W, hW⟩ : ∃ W, W = w.drewN q := ⟨_, rfl⟩
          rw [← hW]
          have mW : MIn W W.heap.size (some ⟨b, off, none⟩) c0 R0 P0 n0 l0 := by rw [hW]; exact w0.drewN q
          have iW : In W W.heap.size A1 c1 l1 := by rw [hW]; exact w1.drewN q
          have bW : Below w.heap.size w W := by rw [hW]; exact Gw.Below.drewN (Below.refl _ _) q
          clear hW HS HLR hc0 hnc w0 w1
          have sW := bW.size
          go_loopw [5, 6] (BkRel W R0 n l0 l1) (fun _ i _ => R0 - (intOf i).toNat)
          case atStart => exact ⟨0, none, 0, Nat.zero_le _, rfl, rfl, Own.none_ _ _ _, Below.refl _ _⟩
          case round =>
            obtain ⟨k, A, c, hk, rfl, rfl, hO, hB⟩ := hrel
            have mk := mW.below hB
            have ik := iW.below hB
            have sk := hB.size
            have HO := Lib.hid hO
            have HB := Lib.hid hB
            have hAc := hO.cap
            rw [rg_len] at hAc
            clear hO hB
            by_cases hlt : k < R0
            · obtain ⟨wo, rfl⟩ : ∃ wo : World, wo = wr := ⟨_, rfl⟩
              go_wp2
              go_loopw [7, 8] (BiRel wo n (mx l0 k) (co l1)) (fun _ i _ => n - (intOf i).toNat)
              case atStart => exact ⟨0, 0, Nat.zero_le _, rfl, rfl, rfl⟩
              case round =>
                obtain ⟨t, q2, ht, rfl, rfl, hw⟩ := hrel
                have mr : MIn wr W.heap.size (some ⟨b, off, none⟩) c0 R0 P0 n0 l0 := by rw [hw]; exact mk.drewN q2
                have ir : In wr W.heap.size A1 c1 l1 := by rw [hw]; exact ik.drewN q2
                have HW := Lib.hid hw
                clear hw
                by_cases htn : t < n
                · obtain ⟨b', off', b2, off2, c2, e1, h1, h2, h3⟩ := mr.byte hlt (HH.out k hlt) htn
                  injection e1 with e1
                  injection e1 with e2 e3
                  subst e2 e3
                  obtain ⟨b3, off3, rfl, hb3, h4, h5⟩ := ir.byte (j := t) (by rw [HX.out]; exact htn)
                  obtain ⟨x, hx⟩ : ∃ x, x = co (l0 k) t := ⟨_, rfl⟩
                  obtain ⟨y, hy⟩ : ∃ y, y = co l1 t := ⟨_, rfl⟩
                  obtain ⟨s, hs⟩ : ∃ s, s = Sv.dt t (mx l0 k) (co l1) := ⟨_, rfl⟩
                  have hsb : s < 256 := by rw [hs]; exact Sv.dt_lt _ _ _
                  rw [← hx] at h2 h3
                  rw [← hy] at h4 h5
                  rw [← hs]
                  have hxor : bits .xor .u8 (s : Int) (Gf.gm x y : Int) = ((s ^^^ Gf.gm x y : Nat) : Int) := u8_xor_nat _ _ hsb (Gf.gm_lt _ _)
                  have HD : Hid (s ^^^ Gf.gm x y = Sv.dt (t + 1) (mx l0 k) (co l1)) := Lib.hid (by rw [hs, hx, hy]; rfl)
                  clear hx hy hs
                  go_wp2
                  go_quiet ((go_at_call 14; exact Calls.quiet_of_same (rmul_q x y h3 h5 _)))
                  go_wp2
                  go_roundw
                  case rel => exact ⟨t + 1, q2 + nq, by omega, by rw [← HD.out], by go_num, by rw [HW.out, World.drewN_drewN]⟩
                  case measure => simp [intOf]; omega
                · obtain rfl : n = t := by omega
                  obtain ⟨s, hs⟩ : ∃ s, s = Sv.dt n (mx l0 k) (co l1) := ⟨_, rfl⟩
                  have hsb : s < 256 := by rw [hs]; exact Sv.dt_lt _ _ _
                  have HSD : Hid (s = DD n l0 l1 k) := Lib.hid hs
                  rw [← hs]
                  clear hs
                  have hO2 : Gw.Own wr W.heap.size 5 A c (rg k (DD n l0 l1)) := by rw [HW.out]; exact HO.out.drewN q2
                  have hB2 : Below W.heap.size W wr := by rw [HW.out]; exact Gw.Below.drewN HB.out q2
                  have s2 := hB2.size
                  go_wp2_with (at_builtin; refine wpList_app rfl (.tmp 60) (.tmp 62) 23 rfl W.heap.size 5 i0 _ Try.underlying23 hi0 hz0 hz1 hz2 rfl A k c (rg k (DD n l0 l1)) rfl (rg_len _ _).symm (hO2.alloc _) (wr.heap.size + 1) (some ⟨wr.heap.size, 0, none⟩) 1 1 [s] rfl rfl (fun h => by cases h) (Sl.one wr 5 s hsb) (by rw [rg_len]; simp; omega) (by rw [World.size_alloc]; omega) ?_; intro A2 c2 w2 hown2 hgr2)
                  have hB3 := below_app hB2 s2 hO2 hgr2
                  rw [HSD.out, rg_succ] at hown2
                  have HO3 := Lib.hid hown2
                  have HB3 := Lib.hid hB3
                  clear hown2 hgr2 hB3 hO2 hB2
                  go_roundw
                  case rel => exact ⟨k + 1, A2, c2, by omega, by rw [rg_len], by go_num, HO3.out, HB3.out⟩
                  case measure => simp [intOf]; omega
            · obtain rfl : R0 = k := by omega
              have hBB : BB l1 := iW.bb
              have hM : Sv.Bm (mx l0) := fun i j => co_lt (b0 i) j
              have hDb : ∀ i, DD n l0 l1 i < 256 := fun i => Sv.dt_lt _ _ _
              have hbb : ∀ i, co (rg R0 (DD n l0 l1)) i < 256 := fun i => co_lt (rg_bb hDb) i
              have hsol : ∀ i, i < R0 → Sv.dt n (mx l0 i) (co l1) = co (rg R0 (DD n l0 l1)) i := fun i hi => by rw [rg_co _ hi]; rfl
              have HBK := Lib.hid (Sv.back hM hbb (fun j => co_lt hBB j) hsol)
              have HUQ := Lib.hid (fun X (hn : n ∉ _) (hX : Sv.IsX _ _ n _ X) (hr : n ≤ _) => Sv.uniq (v := co l1) hM hbb (fun j => co_lt hBB j) hr hn hX hsol)
              clear hBB hM hDb hbb hsol hk
              go_wp2_with (go_at_call 10; refine (new_any _).mono ?_; rintro e w3 ⟨rfl, hF3, hB3⟩; have m3 := (mk.below (hB3.mono sk)).more (Nat.le_trans sk hB3.size); have o3 := (HO.out.kept hB3).inn; have s3 := hB3.size)
              refine (solve_any _ (some ⟨b, off, none⟩) A c0 R0 n c P0 n0 l0 (rg R0 (DD n l0 l1)) w3 hF3 m3 o3 HH.out (rg_len _ _) (fun h => absurd h hR0) (by omega) (by omega) b0).mono ?_
              rintro e w4 ⟨hB4, ⟨hin, _⟩ | ⟨hnin, X, Ay, cy, hX, rfl, hOy⟩⟩
              · exact absurd hin HBK.out
              have B4 : Below W.heap.size W w4 := (HB.out.trans (hB3.mono sk)).trans (hB4.mono (by omega))
              have HUX := Lib.hid (HUQ.out X hnin hX)
              clear HUQ HBK hX hnin m3 o3 hF3
              have s4 := B4.size
              have HB4 := Lib.hid B4
              clear hB3 hB4 B4
              obtain ⟨rk, hrk⟩ : ∃ rk, rk = (Sv.red R0 (mx l0) n).2.length := ⟨_, rfl⟩
              have HRK := Lib.hid (fun bf W (hF : IsField W bf) (h : MIn W W.heap.size (some ⟨b, off, none⟩) c0 R0 P0 n0 l0) => rank_any bf (some ⟨b, off, none⟩) c0 R0 n P0 n0 l0 W hF h HH.out (by omega) (by omega) b0)
              rw [← hrk] at HRK
              have HUX2 : Hid (n ≤ rk → ∀ j, j < n → co l1 j = X j) := Lib.hid (fun h => HUX.out (by rw [← hrk]; exact h))
              clear hrk HUX
              by_cases hlr : rk < n
              · have b1 : ((rk : Int) < (n : Int)) := by omega
                go_wp2_with (first
                  | (go_at_call 8; refine (AN.out _).mono ?_; rintro e w5 ⟨rfl, hB5⟩; have B5 := HB4.out.trans (hB5.mono s4); have s5 := B5.size; have m5 := (mW.below B5).more s5)
                  | (go_at_call 10; refine (new_any _).mono ?_; rintro e w6 ⟨rfl, hF6, hB6⟩; have B6 := B5.trans (hB6.mono s5); have s6 := B6.size; have m6 := (mW.below B6).more s6)
                  | (go_at_call 15; refine (HRK.out _ w6 hF6 m6).mono ?_; rintro e w7 ⟨rfl, hB7⟩))
                go_ret
                exact ⟨rfl, bW.trans ((B6.trans (hB7.mono s6)).mono sW)⟩
              · have hB : Hid (rg n X = l1) := Lib.hid (by
                  have h1 := HUX2.out (by omega)
                  rw [← rg_of l1, HX.out]
                  exact rg_ext.2 fun j hj => (h1 j hj).symm)
                rw [hB.out] at hOy
                have HOY := Lib.hid hOy
                clear hOy hB
                go_wp2_with (first
                  | (go_at_call 8; refine (AN.out _).mono ?_; rintro e w5 ⟨rfl, hB5⟩; have B5 := HB4.out.trans (hB5.mono s4); have s5 := B5.size; have m5 := (mW.below B5).more s5)
                  | (go_at_call 10; refine (new_any _).mono ?_; rintro e w6 ⟨rfl, hF6, hB6⟩; have B6 := B5.trans (hB6.mono s5); have s6 := B6.size; have m6 := (mW.below B6).more s6)
                  | (go_at_call 15; refine (HRK.out _ w6 hF6 m6).mono ?_; rintro e w7 ⟨rfl, hB7⟩; have B7 := B6.trans (hB7.mono s6); have i7 := iW.below B7; have o7 := (((HOY.out.kept hB5).kept hB6).kept hB7).inn)
                  | (go_at_call 16; refine (same' A1 Ay c1 cy n n l1 l1 w7 _ _ HX.out.symm HX.out.symm i7 o7).mono ?_; rintro e w8 ⟨rfl, rfl⟩))
                go_ret
                exact ⟨by simp, bW.trans (B7.mono sW)⟩
        · have z1 : ((l1.length : Int) == (n : Int)) = false := beq_eq_false_iff_ne.2 (by omega)
          clear hr
          go_enter Try.func5, Try.ntmps5
          go_wp2_with (first
            | (go_at_call 7; refine HS.out.mono ?_; rintro e w1 ⟨rfl, rfl⟩)
            | (go_at_call 11; refine HLR.out.mono ?_; rintro e w4 ⟨rfl, q, rfl⟩)
            | (go_at_call 8; refine (AN.out _).mono ?_; rintro e w6 ⟨rfl, hB6⟩))
          go_ret
          exact ⟨rfl, drewN_below (n := q) hB6⟩
    · have HLR := Lib.hid (lright_any A0 c0 R0 _ P0 n0 l0 w w0 (by omega) false ⟨fun h => Bool.noConfusion h, fun h => absurd h hr⟩)
      clear hr
      go_enter Try.func5, Try.ntmps5
      go_wp2_with (first
        | (go_at_call 7; refine HS.out.mono ?_; rintro e w1 ⟨rfl, rfl⟩)
        | (go_at_call 11; refine HLR.out.mono ?_; rintro e w4 ⟨rfl, q, rfl⟩)
        | (go_at_call 8; refine (AN.out _).mono ?_; rintro e w6 ⟨rfl, hB6⟩))
      go_ret
      exact ⟨rfl, drewN_below (n := q) hB6⟩
  · have HS := Lib.hid (lsmall_any A0 c0 R0 _ P0 n0 l0 w w0 (by omega) false ⟨fun h => Bool.noConfusion h, fun h => absurd h hsm⟩)
    clear hsm
    go_enter Try.func5, Try.ntmps5
    go_wp2_with (first
      | (go_at_call 7; refine HS.out.mono ?_; rintro e w1 ⟨rfl, rfl⟩)
      | (go_at_call 8; refine (AN.out _).mono ?_; rintro e w6 ⟨rfl, hB6⟩))
    go_ret
    exact ⟨rfl, hB6⟩

set_option maxRecDepth 100000 in
theorem lifted (os : Os) (started : os.Started) (H : Type) (enc : TypeId × Value → H) :
    ReturnsInHanded {} Try.checked os 5 .any (Rows.solveBackSpec.pre6 enc Try.prog Try.f5 Rows.solveBackRow.domain false) (Rows.solveBackSpec.post enc Try.prog Try.f5 false true false false) := by
  refine returnsInHanded_of_change_sized (C := Try.checked) own started (by kernel_rfl) Try.func5
    (ChangeSpec.witness6 (enc := enc) (C := Try.checked) false ⟨#[], #[.slice none 0 0, .slice none 0 0], []⟩ 8 (by kernel_rfl) (by kernel_rfl) (by kernel_rfl) (by kernel_rfl)) ?_
  intro W base args ds gs before hval0 hW _hcnd hsz0 _
  have hval : ∀ (j : Nat) t v, Try.f5.params[j]? = some t → args[j]? = some v → Value.okWide Try.prog W .any base t v := hval0
  have hW' := hW
  obtain ⟨p, q, hA0, hV, rfl, _hfz, _hnd⟩ := hW
  have hA : DataW.TrodAll enc Try.prog W 0 (fun _ => true) true Try.f5.params.toList args.toList ds p := hA0
  have hsz : (DataW.weightsEach Try.prog (Try.f5.params.toList ++ Rows.solveBackSpec.plain.varTypes Try.prog) (ds ++ gs)).all (· ≤ reachBytes) = true := hsz0
  rw [Try.params5] at hA hval hsz
  obtain ⟨v0, vs0, d0, ds0, p0, q0, hargs, rfl, rfl, h0, r0⟩ := trodAll_cons hA
  obtain ⟨v1, vs1, d1, ds1, p1, q1, rfl, rfl, rfl, h1, r1⟩ := trodAll_cons r0
  obtain ⟨rfl, rfl, rfl⟩ := trodAll_nil r1
  obtain rfl : args = #[v0, v1] := by cases args; simp_all
  obtain ⟨rfl, rfl⟩ := trodVars_none hV
  have k0 := h0
  have lt0 : ∀ x ∈ p0, x.block < W.heap.size := by obtain ⟨m, hm⟩ := k0; exact DataW.trod_lt m _ _ _ hm
  obtain ⟨A0, c0, R0, P0, n0, l0, rfl, w0, b0, sz0⟩ := open_rows Try.underlying22 Try.underlying23 Try.underlying5 (by kernel_rfl) (by kernel_rfl) (hval 0 22 v0 rfl rfl) h0
  have s0 := sized_rows hsz (j := 0) (t := 22) (e := 23) rfl rfl Try.underlying22 (by kernel_rfl) sz0
  have k1 := h1
  have lt1 : ∀ x ∈ p1, x.block < W.heap.size := by obtain ⟨m, hm⟩ := k1; exact DataW.trod_lt m _ _ _ hm
  obtain ⟨A1, c1, l1, rfl, w1, sz1⟩ := open_bytes Try.underlying23 Try.underlying5 (by kernel_rfl) (hval 1 23 v1 rfl rfl) h1
  have s1 := sized_bytes hsz (j := 1) (t := 23) (e := 5) rfl rfl Try.underlying23 (by kernel_rfl) sz1
  clear hA0 hval0 hsz0 hsz
  refine (walk A0 c0 R0 P0 n0 l0 A1 c1 l1 W w0 s0 b0 w1 s1).mono fun e W' ⟨he, bel⟩ => ?_
  subst he
  exact ⟨_, rfl, _, _, _, [], _, [], hW', trodAll_mk1 (shut_bool Try.underlying4 _), (trodAll_cons_mk (Below.trod laidOut (by kernel_rfl) (of_decide_eq_true (by kernel_rfl)) k0 bel lt0) (trodAll_cons_mk (Below.trod laidOut (by kernel_rfl) (of_decide_eq_true (by kernel_rfl)) k1 bel lt1) trodAll_mk0)), rfl, bel.frame _, fun h => by cases h⟩

theorem over : Rows.solveBackRow.holds Try.pinned (OpenSpec.ofChange Rows.solveBackSpec) :=
  OpenClaim.holds_of_wide 5 Try.f5 rfl rfl rfl rfl rfl rfl rfl ⟨rfl, rfl, rfl, rfl, rfl⟩ rfl rfl rfl rfl rfl (by kernel_rfl) Try.func5 (by kernel_rfl)
    (of_decide_eq_true (by kernel_rfl)) (by unfold Func.isWrapper; first | (rw [if_pos (by decide +kernel)]; kernel_rfl) | (rw [if_neg (by decide +kernel)]; exact ⟨rfl, rfl⟩))
    (fun os started H enc _ => lifted os started H enc)

end Go.Proofs.Ytkgbmkbbkaifmaa.solveBack
namespace Go.Proofs.Ytkgbmkbbkaifmaa
/-- The statement. -/
theorem solveBack_holds : Rows.SolveBackSaid := solveBack.over
#print axioms solveBack_holds
end Go.Proofs.Ytkgbmkbbkaifmaa

