/- For every input SolveSolves returns true, and every argument reads behind the call as it did before: no condition. -/
import Derived.Test.YtkgbmkbbkaifmaaRows
import Derived.ProofKit
import Derived.OpenShut
import Derived.SizedLaws
import Derived.ChangeOld
import Derived.Carry
import Derived.Test.YtkgbmkbbkaifmaaLawb
import Derived.Test.YtkgbmkbbkaifmaaLawm
import Derived.Test.YtkgbmkbbkaifmaaRrb
import Derived.Test.YtkgbmkbbkaifmaaLwc
import Derived.Test.YtkgbmkbbkaifmaaSox
namespace Go.Proofs.Ytkgbmkbbkaifmaa.solveSolves
open Go.ChangeShapes Go.WideShapes Go.ChangeAt Go.RowKit Go.Shelf Gw Pol

theorem own : ownKnob Try.prog.godebug = none := by kernel_rfl
theorem laidOut : laidOutB Try.prog = true := by kernel_rfl
theorem wth_red {R n : Nat} {l : Nat → List Nat} {b : List Nat} (hn : ∀ i, i < R → (l i).length = n) : (Sv.red R (fun i j => co (wth l b i) j) (n + 1)).2 = (Sv.red R (Sv.aug n (mx l) (co b)) (n + 1)).2 :=
  (Sv.red_agR R (w := n + 1) (fun i j hi hj => by
    unfold wth Sv.aug
    by_cases e : j < n
    · rw [if_pos e]; simp [co, List.getElem?_append_left (show j < (l i).length by rw [hn i hi]; exact e)]
    · have ej : j = (l i).length := by rw [hn i hi]; omega
      rw [if_neg e, ej]; simp [co]) (n + 1) (Nat.le_refl _)).1
theorem wth_bb {l : Nat → List Nat} {b : List Nat} (hl : ∀ i, BB (l i)) (hb : BB b) (i : Nat) : BB (wth l b i) := (hl i).append (bb1 (co_lt hb i))
def S1Rel (wo : World) (R : Nat) (i : Value) (wr : World) : Prop := ∃ k q : Nat, k ≤ R ∧ i = .int .i64 (k : Int) ∧ wr = wo.drewN q
set_option maxRecDepth 100000 in
set_option maxHeartbeats 8000000 in
theorem walk (A0 : Option Addr) (c0 R0 : Nat) (P0 : Nat → Option Addr) (n0 : Nat → Nat) (l0 : Nat → List Nat) (A1 : Option Addr) (c1 : Nat) (l1 : List Nat) (w : World) (w0 : MIn w w.heap.size A0 c0 R0 P0 n0 l0) (s0 : c0 ≤ 5864062014634) (b0 : ∀ i, BB (l0 i)) (w1 : In w w.heap.size A1 c1 l1) (_s1 : c1 ≤ 140737488351232) :
    Calls Try.prog 3 #[.slice A0 R0 c0, .slice A1 l1.length c1] w fun e w' => e = .returned (.bool true) ∧ Below w.heap.size w w' := by
  have hcap := w0.cap
  have hcap1 := w1.cap
  have AN := Lib.hid answers_any
  by_cases hsm : R0 ≤ 30 ∧ ∀ i, i < R0 → (l0 i).length ≤ 30
  · have HS := Lib.hid (lsmall_any A0 c0 R0 _ P0 n0 l0 w w0 (by omega) true ⟨fun _ => hsm, fun _ => rfl⟩)
    obtain ⟨hR, hl30⟩ := hsm
    have HL := Lib.hid hl30
    clear hl30
    by_cases hr : ∀ i, i < R0 → (l0 i).length = (l0 0).length
    · have HLR := Lib.hid (fun W (h : MIn W w.heap.size A0 c0 R0 P0 n0 l0) => lright_any A0 c0 R0 _ P0 n0 l0 W h (by omega) true ⟨fun _ => hr, fun _ => rfl⟩)
      by_cases hx1 : l1.length = R0
      · have HX1 := Lib.hid hx1
        rw [hx1] at hcap1 ⊢
        clear hx1
        have z1 : ((R0 : Int) == (R0 : Int)) = true := by simp
        by_cases hR0 : R0 = 0
        · subst hR0
          clear hr
          go_enter Try.func3, Try.ntmps3
          go_wp2_with (first
            | (go_at_call 7; refine HS.out.mono ?_; rintro e w2 ⟨rfl, rfl⟩)
            | (go_at_call 10; refine (new_any _).mono ?_; rintro e W ⟨rfl, hF, hB⟩; have sW := hB.size; have mW := w0.below hB; have iW := w1.below hB))
          refine (solve_any _ A0 A1 c0 0 0 c1 P0 n0 l0 l1 W hF (mW.more sW) (iW.more sW) (fun i hi => by omega) HX1.out (fun _ => rfl) (by omega) (by omega) b0).mono ?_
          rintro e w4 ⟨hB4, ⟨hin, _⟩ | ⟨hnin, X, Ay, cy, hX, rfl, hOy⟩⟩
          · rw [red_none] at hin; exact absurd hin (by simp)
          have m4 := mW.below (hB4.mono sW)
          go_wp2_with (first
            | (go_at_call 11; refine (HLR.out _ m4).mono ?_; rintro e w5 ⟨rfl, q, rfl⟩)
            | (go_at_call 8; refine (AN.out _).mono ?_; rintro e w6 ⟨rfl, hB6⟩))
          go_ret
          exact ⟨rfl, (hB.trans (hB4.mono sW)).trans ((drewN_below (n := q) hB6).mono (Nat.le_trans sW hB4.size))⟩
        · obtain ⟨b, off, Ar, cr, n, rfl, hn, hc0, hnc⟩ := MIn.len w0 (i := 0) (by omega)
          rw [Nat.add_zero] at hc0
          rw [← hn] at hr
          have hn30 : n ≤ 30 := by rw [hn]; exact HL.out 0 (by omega)
          clear hn
          have z0 : ((R0 : Int) == 0) = false := beq_eq_false_iff_ne.2 (by omega)
          have hRp : 0 < R0 := by omega
          have HH := Lib.hid hr
          clear hr
          have hM : Sv.Bm (mx l0) := fun i j => co_lt (b0 i) j
          have hBB := w1.bb
          have hbb : ∀ i, co l1 i < 256 := fun i => co_lt hBB i
          have HE := Lib.hid (Sv.red_ech R0 hM n)
          have HAI := Lib.hid (Sv.aug_in (R := R0) (n := n) hM (co l1))
          have HSO := Lib.hid (fun X (hn : n ∉ (Sv.red R0 (Sv.aug n (mx l0) (co l1)) (n + 1)).2) (hX : Sv.IsX _ _ n _ X) => Sv.solves (R := R0) hM hbb hn hX)
          have HFR := Lib.hid (fun X (hn : n ∉ (Sv.red R0 (Sv.aug n (mx l0) (co l1)) (n + 1)).2) (hX : Sv.IsX _ _ n _ X) => Sv.free (R := R0) (M := mx l0) hn hX)
          have HRD := Lib.hid (fun W (h : MIn W W.heap.size (some ⟨b, off, none⟩) c0 R0 P0 n0 l0) => rreduce_any (some ⟨b, off, none⟩) c0 R0 n P0 n0 l0 W h HH.out (fun e => absurd e hR0) (by omega) (by omega) b0)
          have HWT := Lib.hid (fun W (h : MIn W W.heap.size (some ⟨b, off, none⟩) c0 R0 P0 n0 l0) (h1 : In W W.heap.size A1 c1 l1) => with_any (some ⟨b, off, none⟩) A1 c0 R0 n c1 P0 n0 l0 l1 W h h1 HH.out HX1.out (by omega) (by omega))
          have HRW := Lib.hid (fun A2 c2 pa cp W (h : MIn W W.heap.size A2 c2 R0 pa cp (wth l0 l1)) => rreduce_any A2 c2 R0 (n + 1) pa cp (wth l0 l1) W h (fun i hi => by unfold wth; rw [List.length_append, HH.out i hi]; rfl) (fun e => absurd e hR0) (by omega) (by omega) (wth_bb b0 hBB))
          unfold RrAns at HRD HRW
          rw [wth_red HH.out] at HRW
          clear hM hBB hbb
          go_enter Try.func3, Try.ntmps3
          go_wp2_with (first
            | (go_at_call 7; refine HS.out.mono ?_; rintro e w2 ⟨rfl, rfl⟩)
            | (go_at_call 10; refine (new_any _).mono ?_; rintro e W ⟨rfl, hF, hB⟩; have sW := hB.size; have mW := w0.below hB; have iW := w1.below hB))
          refine (solve_any _ (some ⟨b, off, none⟩) A1 c0 R0 n c1 P0 n0 l0 l1 W hF (mW.more sW) (iW.more sW) HH.out HX1.out (fun h => absurd h hR0) (by omega) (by omega) b0).mono ?_
          rintro e w4 ⟨hB4, hor⟩
          have s4 := hB4.size
          have B4 := hB.trans (hB4.mono sW)
          have m4 := w0.below B4
          have i4 := w1.below B4
          have z4 := B4.size
          obtain ⟨all, hall⟩ : ∃ all, all = (Sv.red R0 (Sv.aug n (mx l0) (co l1)) (n + 1)).2 := ⟨_, rfl⟩
          obtain ⟨own, hown⟩ : ∃ own, own = (Sv.red R0 (mx l0) n).2 := ⟨_, rfl⟩
          rcases hor with ⟨hin, rfl⟩ | ⟨hnin, X, Ay, cy, hX, rfl, hOy⟩
          · have hgt := HAI.out.1 hin
            clear HSO HFR hin
            rw [← hall, ← hown] at hgt
            rw [← hall] at HRW
            have HRD' : Hid (∀ W, MIn W W.heap.size (some ⟨b, off, none⟩) c0 R0 P0 n0 l0 → Calls Try.prog 12 #[.slice (some ⟨b, off, none⟩) R0 c0] W fun e w' => ∃ (Am Ao : Option Addr) (cm co' : Nat), e = .returned (.tuple #[.slice Am R0 cm, .slice Ao own.length co']) ∧ OwnI w' W.heap.size 3 Ao co' own ∧ Below W.heap.size W w') := Lib.hid (by rw [hown]; exact HRD.out)
            clear HRD hall hown HAI HE
            have b1 : ((own.length : Int) < (all.length : Int)) := by omega
            go_wp2_with (first
              | (go_at_call 11; refine (HLR.out _ m4).mono ?_; rintro e w5 ⟨rfl, q, rfl⟩)
              | (go_at_call 12; refine (HRD'.out _ ((m4.drewN q).more z4)).mono ?_; rintro e w6 ⟨Am, Ao, cm, co', rfl, _, hB6⟩; have B6 := B4.trans ((drewN_below (n := q) hB6).mono z4); have s6 := B6.size))
            refine (HWT.out _ ((w0.below B6).more s6) ((w1.below B6).more s6)).mono ?_
            rintro e w7 ⟨A7, c7, pa7, cp7, rfl, m7, hB7⟩
            have B7 := B6.trans (hB7.mono s6)
            have s7 := B7.size
            clear HRD'
            go_wp2_with (first
              | (go_at_call 12; refine (HRW.out _ _ _ _ _ m7).mono ?_; rintro e w8 ⟨Am2, Ao2, cm2, co2, rfl, _, hB8⟩; have B8 := B7.trans (hB8.mono s7); have s8 := B8.size)
              | (go_at_call 8; refine (AN.out _).mono ?_; rintro e w9 ⟨rfl, hB9⟩))
            go_ret
            exact ⟨rfl, B8.trans (hB9.mono s8)⟩
          · have hle : ¬ own.length < all.length := fun h => hnin (HAI.out.2 (by rw [← hall, ← hown]; exact h))
            have HS1 := Lib.hid (HSO.out X hnin hX)
            have HF1 : Hid (∀ j, j ∉ own → X j = 0) := Lib.hid (by rw [hown]; exact HFR.out X hnin hX)
            have HE1 : Hid (Sv.Ech R0 n (Sv.red R0 (mx l0) n).1 own) := Lib.hid (by rw [hown]; exact HE.out)
            rw [← hall] at HRW
            have HRD' : Hid (∀ W, MIn W W.heap.size (some ⟨b, off, none⟩) c0 R0 P0 n0 l0 → Calls Try.prog 12 #[.slice (some ⟨b, off, none⟩) R0 c0] W fun e w' => ∃ (Am Ao : Option Addr) (cm co' : Nat), e = .returned (.tuple #[.slice Am R0 cm, .slice Ao own.length co']) ∧ OwnI w' W.heap.size 3 Ao co' own ∧ Below W.heap.size W w') := Lib.hid (by rw [hown]; exact HRD.out)
            clear HRD hall hown HAI HE HSO HFR hX hnin
            have b1 : ¬ ((own.length : Int) < (all.length : Int)) := by omega
            have holR := HE1.out.len
            have hbw : b < w.heap.size := by
              obtain ⟨b', off', e1, h1, _⟩ := w0.rd 0 hRp
              injection e1 with e1
              injection e1 with e2
              omega
            go_wp2_with (first
              | (go_at_call 11; refine (HLR.out _ m4).mono ?_; rintro e w5 ⟨rfl, q, rfl⟩)
              | (go_at_call 12; refine (HRD'.out _ ((m4.drewN q).more z4)).mono ?_; rintro e w6 ⟨Am, Ao, cm, co', rfl, hO6, hB6⟩; have B6 := B4.trans ((drewN_below (n := q) hB6).mono z4); have s6 := B6.size))
            refine (HWT.out _ ((w0.below B6).more s6) ((w1.below B6).more s6)).mono ?_
            rintro e w7 ⟨A7, c7, pa7, cp7, rfl, m7, hB7⟩
            have B7 := B6.trans (hB7.mono s6)
            have s7 := B7.size
            clear HRD'
            have z2 : ((n : Int) == (n : Int)) = true := by simp
            have hb46 : Below w4.heap.size w4 w6 := drewN_below (n := q) hB6
            have t46 := hb46.size
            have t67 := hB7.size
            go_wp2_with (go_at_call 12; refine (HRW.out _ _ _ _ _ m7).mono ?_; rintro e w8 ⟨Am2, Ao2, cm2, co2, rfl, _, hB8⟩; have B8 := B7.trans (hB8.mono s7); have s8 := B8.size; have hc8 := (B8.cell (p := ⟨b, off, none⟩) hbw).trans hc0)
            have hb48 : Below w4.heap.size w4 w8 := (hb46.trans (hB7.mono t46)).trans (hB8.mono (by omega))
            have hb68 : Below w6.heap.size w6 w8 := hB7.trans (hB8.mono t67)
            have y8 := (hOy.kept hb48).inn
            have O8 : OwnI w8 (w4.drewN q).heap.size 3 Ao co' own := hO6.kt (Kt.ofBelow (lo := 0) (hi := 0) hb68) (Nat.zero_le _)
            have m8 := w0.below B8
            have i8 := w1.below B8
            have HO8 := Lib.hid O8
            have HB8 := Lib.hid B8
            have hol := O8.capl
            clear HRW HWT m7 hB6 hB7 hB8 B6 B7 B8 hb46 hb48 hb68 hO6 hOy m4 i4 hc8 O8 w0 w1 hF hB hB4 B4 mW iW HLR HS
            go_loopw [11] (S1Rel w8 R0) (fun i _ => R0 - (intOf i).toNat)
            case atStart => exact ⟨0, 0, Nat.zero_le _, rfl, rfl⟩
            case round =>
              obtain ⟨k, q3, hk, rfl, hwk⟩ := hrel
              have mk : MIn wr w.heap.size (some ⟨b, off, none⟩) c0 R0 P0 n0 l0 := by rw [hwk]; exact m8.drewN q3
              have ik : In wr w.heap.size A1 c1 l1 := by rw [hwk]; exact i8.drewN q3
              have yk : In wr w8.heap.size Ay cy (rg n X) := by rw [hwk]; exact y8.drewN q3
              have HWK := Lib.hid hwk
              clear hwk
              by_cases hlt : k < R0
              · obtain ⟨wo, rfl⟩ : ∃ wo : World, wo = wr := ⟨_, rfl⟩
                go_wp2
                go_loopw [12, 13] (BiRel wo n (mx l0 k) X) (fun _ i _ => n - (intOf i).toNat)
                case atStart => exact ⟨0, 0, Nat.zero_le _, rfl, rfl, rfl⟩
                case round =>
                  obtain ⟨t, q2, ht, rfl, rfl, hw⟩ := hrel
                  have mr : MIn wr w.heap.size (some ⟨b, off, none⟩) c0 R0 P0 n0 l0 := by rw [hw]; exact mk.drewN q2
                  have ir : In wr w.heap.size A1 c1 l1 := by rw [hw]; exact ik.drewN q2
                  have yr : In wr w8.heap.size Ay cy (rg n X) := by rw [hw]; exact yk.drewN q2
                  have HW := Lib.hid hw
                  clear hw
                  by_cases htn : t < n
                  · obtain ⟨b', off', b2, off2, cx, e1, h1, h2, h3⟩ := mr.byte hlt (HH.out k hlt) htn
                    injection e1 with e1
                    injection e1 with e2 e3
                    subst e2 e3
                    obtain ⟨b3, off3, rfl, hb3, h4, h5⟩ := yr.byte (j := t) (by rw [rg_len]; exact htn)
                    rw [rg_co X htn] at h4 h5
                    obtain ⟨x, hx⟩ : ∃ x, x = co (l0 k) t := ⟨_, rfl⟩
                    obtain ⟨z, hz⟩ : ∃ z, z = X t := ⟨_, rfl⟩
                    obtain ⟨s, hs⟩ : ∃ s, s = Sv.dt t (mx l0 k) X := ⟨_, rfl⟩
                    have hsb : s < 256 := by rw [hs]; exact Sv.dt_lt _ _ _
                    rw [← hx] at h2 h3
                    rw [← hz] at h4 h5
                    rw [← hs]
                    have hxor : bits .xor .u8 (s : Int) (Gf.gm x z : Int) = ((s ^^^ Gf.gm x z : Nat) : Int) := u8_xor_nat _ _ hsb (Gf.gm_lt _ _)
                    have HD : Hid (s ^^^ Gf.gm x z = Sv.dt (t + 1) (mx l0 k) X) := Lib.hid (by rw [hs, hx, hz]; rfl)
                    clear hx hz hs
                    go_wp2
                    go_quiet ((go_at_call 14; exact Calls.quiet_of_same (rmul_q x z h3 h5 _)))
                    go_wp2
                    go_roundw
                    case rel => exact ⟨t + 1, q2 + nq, by omega, by rw [← HD.out], by go_num, by rw [HW.out, World.drewN_drewN]⟩
                    case measure => simp [intOf]; omega
                  · obtain rfl : n = t := by omega
                    have HSD := HS1.out k hlt
                    rw [HSD]
                    clear HSD
                    obtain ⟨b3, off3, rfl, hb3, h4, h5⟩ := ir.byte (j := k) (by rw [HX1.out]; exact hlt)
                    obtain ⟨x, hx⟩ : ∃ x, x = co l1 k := ⟨_, rfl⟩
                    rw [← hx] at h4 h5 ⊢
                    have b2 : ((x : Int) == (x : Int)) = true := by simp
                    clear hx
                    go_wp2
                    go_roundw
                    case rel => exact ⟨k + 1, q3 + q2, by omega, by go_num, by rw [HW.out, HWK.out, World.drewN_drewN]⟩
                    case measure => simp [intOf]; omega
              · have Ok : Hid (OwnI wr (w4.drewN q).heap.size 3 Ao co' own) := Lib.hid (by rw [HWK.out]; exact HO8.out.kt ((Kt.refl 0 0 w8).drewN q3) (Nat.zero_le _))
                have Bk : Below w.heap.size w wr := by rw [HWK.out]; exact Gw.Below.drewN HB8.out q3
                clear mk ik HWK
                go_wp2
                go_loop [14, 15] (fun a i => ∃ j k : Nat, j ≤ n ∧ a = .int .i64 (k : Int) ∧ i = .int .i64 (j : Int) ∧ Hid (Sv.Cnt own j k)) (fun _ i => n - (intOf i).toNat)
                case atStart => exact ⟨0, 0, Nat.zero_le _, rfl, rfl, Lib.hid (Sv.cnt_start own)⟩
                case round =>
                  obtain ⟨j, k2, hj, rfl, rfl, hcnt⟩ := hrel
                  have hk2 := hcnt.out.1
                  by_cases hjn : j < n
                  · by_cases hit : own[k2]? = some j
                    · obtain ⟨gl, rfl, hgl, hcl⟩ := Ok.out.at_ hit
                      have hlk := Sv.at_lt hit
                      have HC := Lib.hid (hcnt.out.hit HE1.out hit)
                      have b2 : ((j : Int) == (j : Int)) = true := by simp
                      clear hit
                      go_wp2
                      go_round
                      case rel => exact ⟨j + 1, k2 + 1, by omega, by go_num, by go_num, HC.out⟩
                      case measure => simp [intOf]; omega
                    · obtain ⟨hc2, hno⟩ := hcnt.out.miss HE1.out hit
                      have HC := Lib.hid hc2
                      obtain ⟨b3, off3, rfl, hb3, h4, h5⟩ := yk.byte (j := j) (by rw [rg_len]; exact hjn)
                      rw [rg_co X hjn, HF1.out j hno] at h4
                      have b3 : (((0 : Nat) : Int) == 0) = true := rfl
                      clear hc2 hno h5
                      by_cases hlk : k2 < own.length
                      · obtain ⟨lk, hlk2⟩ : ∃ lk, own[k2]? = some lk := ⟨_, List.getElem?_eq_getElem hlk⟩
                        obtain ⟨gl, rfl, hgl, hcl⟩ := Ok.out.at_ hlk2
                        have hne : lk ≠ j := fun e => hit (by rw [← e]; exact hlk2)
                        have b2 : ((lk : Int) == (j : Int)) = false := beq_eq_false_iff_ne.2 (by omega)
                        clear hit hlk2 hne
                        go_wp2
                        go_round
                        case rel => exact ⟨j + 1, k2, by omega, by go_num, by go_num, HC.out⟩
                        case measure => simp [intOf]; omega
                      · clear hit
                        go_wp2
                        go_round
                        case rel => exact ⟨j + 1, k2, by omega, by go_num, by go_num, HC.out⟩
                        case measure => simp [intOf]; omega
                  · have sB := Bk.size
                    clear hcnt
                    go_wp2_with (go_at_call 8; refine (AN.out _).mono ?_; rintro e w9 ⟨rfl, hB9⟩)
                    go_ret
                    exact ⟨rfl, Bk.trans (hB9.mono sB)⟩
      · have HSB := Lib.hid (fun bf W (h : MIn W w.heap.size A0 c0 R0 P0 n0 l0) => solve_bad bf A0 A1 c0 R0 c1 l1.length P0 n0 l0 W _ h (by omega) true ⟨fun _ => hr, fun _ => rfl⟩ (.inr hx1))
        have z1 : ((l1.length : Int) == (R0 : Int)) = false := beq_eq_false_iff_ne.2 (by omega)
        clear hr hx1
        go_enter Try.func3, Try.ntmps3
        go_wp2_with (first
          | (go_at_call 7; refine HS.out.mono ?_; rintro e w2 ⟨rfl, rfl⟩)
          | (go_at_call 10; refine (new_any _).mono ?_; rintro e W ⟨rfl, hF, hB⟩; have sW := hB.size; have mW := w0.below hB)
          | (go_at_call 9; refine (HSB.out _ W mW).mono ?_; rintro e w4 ⟨rfl, rfl⟩)
          | (go_at_call 11; refine (HLR.out _ mW).mono ?_; rintro e w5 ⟨rfl, q, rfl⟩)
          | (go_at_call 8; refine (AN.out _).mono ?_; rintro e w6 ⟨rfl, hB6⟩))
        go_ret
        exact ⟨rfl, hB.trans ((drewN_below (n := q) hB6).mono sW)⟩
    · have HLR := Lib.hid (fun W (h : MIn W w.heap.size A0 c0 R0 P0 n0 l0) => lright_any A0 c0 R0 _ P0 n0 l0 W h (by omega) false ⟨fun h => Bool.noConfusion h, fun h => absurd h hr⟩)
      have HSB := Lib.hid (fun bf W (h : MIn W w.heap.size A0 c0 R0 P0 n0 l0) => solve_bad bf A0 A1 c0 R0 c1 l1.length P0 n0 l0 W _ h (by omega) false ⟨fun h => Bool.noConfusion h, fun h => absurd h hr⟩ (.inl rfl))
      clear hr
      go_enter Try.func3, Try.ntmps3
      go_wp2_with (first
        | (go_at_call 7; refine HS.out.mono ?_; rintro e w2 ⟨rfl, rfl⟩)
        | (go_at_call 10; refine (new_any _).mono ?_; rintro e W ⟨rfl, hF, hB⟩; have sW := hB.size; have mW := w0.below hB)
        | (go_at_call 9; refine (HSB.out _ W mW).mono ?_; rintro e w4 ⟨rfl, rfl⟩)
        | (go_at_call 11; refine (HLR.out _ mW).mono ?_; rintro e w5 ⟨rfl, q, rfl⟩)
        | (go_at_call 8; refine (AN.out _).mono ?_; rintro e w6 ⟨rfl, hB6⟩))
      go_ret
      exact ⟨rfl, hB.trans ((drewN_below (n := q) hB6).mono sW)⟩
  · have HS := Lib.hid (lsmall_any A0 c0 R0 _ P0 n0 l0 w w0 (by omega) false ⟨fun h => Bool.noConfusion h, fun h => absurd h hsm⟩)
    clear hsm
    go_enter Try.func3, Try.ntmps3
    go_wp2_with (first
      | (go_at_call 7; refine HS.out.mono ?_; rintro e w1 ⟨rfl, rfl⟩)
      | (go_at_call 8; refine (AN.out _).mono ?_; rintro e w6 ⟨rfl, hB6⟩))
    go_ret
    exact ⟨rfl, hB6⟩

set_option maxRecDepth 100000 in
theorem lifted (os : Os) (started : os.Started) (H : Type) (enc : TypeId × Value → H) :
    ReturnsInHanded {} Try.checked os 3 .any (Rows.solveSolvesSpec.pre6 enc Try.prog Try.f3 Rows.solveSolvesRow.domain false) (Rows.solveSolvesSpec.post enc Try.prog Try.f3 false true false false) := by
  refine returnsInHanded_of_change_sized (C := Try.checked) own started (by kernel_rfl) Try.func3
    (ChangeSpec.witness6 (enc := enc) (C := Try.checked) false ⟨#[], #[.slice none 0 0, .slice none 0 0], []⟩ 8 (by kernel_rfl) (by kernel_rfl) (by kernel_rfl) (by kernel_rfl)) ?_
  intro W base args ds gs before hval0 hW _hcnd hsz0 _
  have hval : ∀ (j : Nat) t v, Try.f3.params[j]? = some t → args[j]? = some v → Value.okWide Try.prog W .any base t v := hval0
  have hW' := hW
  obtain ⟨p, q, hA0, hV, rfl, _hfz, _hnd⟩ := hW
  have hA : DataW.TrodAll enc Try.prog W 0 (fun _ => true) true Try.f3.params.toList args.toList ds p := hA0
  have hsz : (DataW.weightsEach Try.prog (Try.f3.params.toList ++ Rows.solveSolvesSpec.plain.varTypes Try.prog) (ds ++ gs)).all (· ≤ reachBytes) = true := hsz0
  rw [Try.params3] at hA hval hsz
  obtain ⟨v0, vs0, d0, ds0, p0, q0, hargs, rfl, rfl, h0, r0⟩ := trodAll_cons hA
  obtain ⟨v1, vs1, d1, ds1, p1, q1, rfl, rfl, rfl, h1, r1⟩ := trodAll_cons r0
  obtain ⟨rfl, rfl, rfl⟩ := trodAll_nil r1
  obtain rfl : args = #[v0, v1] := by cases args; simp_all
  obtain ⟨rfl, rfl⟩ := trodVars_none hV
  have k0 := h0
  have lt0 : ∀ x ∈ p0, x.block < W.heap.size := by obtain ⟨m, hm⟩ := k0; exact DataW.trod_lt m _ _ _ hm
  obtain ⟨A0, c0, R0, P0, n0, l0, rfl, w0, b0, sz0⟩ := open_rows Try.underlying22 Try.underlying23 Try.underlying5 (by kernel_rfl) (by kernel_rfl) (hval 0 22 v0 rfl rfl) h0
  have s0 := sized_rows hsz (j := 0) (t := 22) (e := 23) rfl rfl Try.underlying22 (by kernel_rfl) sz0
  have k1 := h1
  have lt1 : ∀ x ∈ p1, x.block < W.heap.size := by obtain ⟨m, hm⟩ := k1; exact DataW.trod_lt m _ _ _ hm
  obtain ⟨A1, c1, l1, rfl, w1, sz1⟩ := open_bytes Try.underlying23 Try.underlying5 (by kernel_rfl) (hval 1 23 v1 rfl rfl) h1
  have s1 := sized_bytes hsz (j := 1) (t := 23) (e := 5) rfl rfl Try.underlying23 (by kernel_rfl) sz1
  clear hA0 hval0 hsz0 hsz
  refine (walk A0 c0 R0 P0 n0 l0 A1 c1 l1 W w0 s0 b0 w1 s1).mono fun e W' ⟨he, bel⟩ => ?_
  subst he
  exact ⟨_, rfl, _, _, _, [], _, [], hW', trodAll_mk1 (shut_bool Try.underlying4 _), (trodAll_cons_mk (Below.trod laidOut (by kernel_rfl) (of_decide_eq_true (by kernel_rfl)) k0 bel lt0) (trodAll_cons_mk (Below.trod laidOut (by kernel_rfl) (of_decide_eq_true (by kernel_rfl)) k1 bel lt1) trodAll_mk0)), rfl, bel.frame _, fun h => by cases h⟩

theorem over : Rows.solveSolvesRow.holds Try.pinned (OpenSpec.ofChange Rows.solveSolvesSpec) :=
  OpenClaim.holds_of_wide 3 Try.f3 rfl rfl rfl rfl rfl rfl rfl ⟨rfl, rfl, rfl, rfl, rfl⟩ rfl rfl rfl rfl rfl (by kernel_rfl) Try.func3 (by kernel_rfl)
    (of_decide_eq_true (by kernel_rfl)) (by unfold Func.isWrapper; first | (rw [if_pos (by decide +kernel)]; kernel_rfl) | (rw [if_neg (by decide +kernel)]; exact ⟨rfl, rfl⟩))
    (fun os started H enc _ => lifted os started H enc)

end Go.Proofs.Ytkgbmkbbkaifmaa.solveSolves
namespace Go.Proofs.Ytkgbmkbbkaifmaa
/-- The statement. -/
theorem solveSolves_holds : Rows.SolveSolvesSaid := solveSolves.over
#print axioms solveSolves_holds
end Go.Proofs.Ytkgbmkbbkaifmaa

