/- For every input WordReads returns true, and every argument reads behind the call as it did before: no condition. -/
import Derived.Test.YtpkdlblncgldmaaRows
import Derived.ProofKit
import Derived.OpenShut
import Derived.SizedLaws
import Derived.ChangeOld
import Derived.Carry
import Derived.Test.YtpkdlblncgldmaaLawb
import Derived.Test.YtpkdlblncgldmaaWde
import Derived.Test.YtpkdlblncgldmaaWdf
import Derived.Test.YtpkdlblncgldmaaGty
import Derived.BigQuiet
import Derived.Test.YtpkdlblncgldmaaLawq
namespace Go.Proofs.Ytpkdlblncgldmaa.wordReads
open Go.ChangeShapes Go.WideShapes Go.ChangeAt Go.RowKit Go.Shelf Gw Pol Go.BigFrame

theorem own : ownKnob Try.prog.godebug = none := by kernel_rfl
theorem laidOut : laidOutB Try.prog = true := by kernel_rfl
/-- What a round has made. -/
def RsRel (w : World) (x M N : Nat) (l0 : List Nat) (v6 v7 v8 : Value) (wr : World) : Prop :=
  ∃ (k at' gr : Nat) (bad : Bool), k ≤ M ∧ v6 = .int .i64 (at' : Int) ∧ v7 = .bool bad ∧ v8 = .int .i64 (k : Int) ∧ Bx wr x gr (if bad then [] else l0.drop at') bad ∧ at' ≤ N ∧ w.heap.size ≤ gr ∧ Below w.heap.size w wr
theorem rdN_bad : rdN [] true = (0, [], true) := rfl
theorem rdL_bad : rdL [] true = ([], [], true) := rfl
/-- The reader's Int, where there is no number. -/
theorem rint_no (x g : Nat) (l : List Nat) (bad : Bool) (w : World) (h : Bx w x g l bad) (hn : ¬ hasN l) : Calls Try.prog 17 #[.pointer (some ⟨x, 0, none⟩)] w fun e w' => e = .returned (.int .i64 0) ∧ ∃ g', Bx w' x g' [] true ∧ (g' = g ∨ g' = x) ∧ K2 w w' x x := by
  refine (rint_any x g l bad w h).mono ?_
  have e1 : rdN l bad = (0, [], true) := by unfold rdN; rw [if_neg hn]
  rw [e1]
  rintro e w' ⟨rfl, g', h1, h2, h3, _⟩
  exact ⟨rfl, g', h1, h2, h3⟩
theorem rbytes_no (x g : Nat) (l : List Nat) (bad : Bool) (w : World) (h : Bx w x g l bad) (hn : ¬ hasL l) : Calls Try.prog 16 #[.pointer (some ⟨x, 0, none⟩)] w fun e w' => ∃ AT, e = .returned (.slice AT 0 0) ∧ ∃ g', Bx w' x g' [] true ∧ (g' = g ∨ g' = x) ∧ K2 w w' x x := by
  refine (rbytes_any x g l bad w h).mono ?_
  have e1 : rdL l bad = ([], [], true) := by unfold rdL; rw [if_neg hn]
  rw [e1]
  rintro e w' ⟨AT, m, rfl, hm, _, _, g', h1, h2, h3, _⟩
  have : m = 0 := hm
  subst this
  exact ⟨AT, rfl, g', h1, h2, h3⟩
theorem str_nil : str [] = { data := #[] } := by decide +kernel
/-- Done, where something is amiss. -/
theorem rdone_bad (x g : Nat) (w : World) (h : Bx w x g [] true) : Calls Try.prog 15 #[.pointer (some ⟨x, 0, none⟩)] w fun e w' => e = .returned (.bool false) ∧ w' = w := rdone_any x g [] true w h
theorem rdone_at (x g a N : Nat) (l : List Nat) (w : World) (h : Bx w x g (l.drop a) false) (hN : N = l.length) (ha : a ≤ N) : Calls Try.prog 15 #[.pointer (some ⟨x, 0, none⟩)] w fun e w' => e = .returned (.bool (decide (a = N))) ∧ w' = w := by
  have e1 : dn (l.drop a) false = decide (a = N) := by
    unfold dn
    rw [Bool.not_false, Bool.true_and, List.length_drop, ← hN]
    congr 1
    exact propext ⟨fun h => by omega, fun h => by omega⟩
  rw [← e1]
  exact rdone_any x g _ false w h
set_option maxRecDepth 100000 in
set_option maxHeartbeats 8000000 in
theorem walk (A0 : Option Addr) (c0 : Nat) (l0 : List Nat) (A1 : Option Addr) (c1 : Nat) (z1 : List Bool) (w : World) (w0 : In w w.heap.size A0 c0 l0) (s0 : c0 ≤ 140737488351232) (w1 : InB w w.heap.size A1 c1 z1) (s1 : c1 ≤ 140737488351232) :
    Calls Try.prog 4 #[.slice A0 l0.length c0, .slice A1 z1.length c1] w fun e w' => e = .returned (.bool true) ∧ Below w.heap.size w w' := by
  obtain ⟨N, hN⟩ : ∃ N, N = l0.length := ⟨_, rfl⟩
  obtain ⟨M, hM⟩ : ∃ M, M = z1.length := ⟨_, rfl⟩
  rw [← hN, ← hM]
  have hbb := w0.bb
  have hNb : N ≤ 140737488351232 := by have := w0.cap; omega
  have hMb : M ≤ 140737488351232 := by have := w1.cap; omega
  have HN := Lib.hid hN
  have HM := Lib.hid hM
  have HR := Lib.hid (rread_any A0 N c0 l0 w hN w0 (by omega))
  clear hN hM
  go_enter Try.func4, Try.ntmps4
  go_wp2_with fail
  refine HR.out.mono ?_
  rintro e w2 ⟨x, g2, rfl, h2, hxl, hg2, hb2⟩
  clear HR
  go_wp2
  go_loopw [6, 7, 8] (RsRel w x M N l0) (fun _ _ i _ => M - (intOf i).toNat)
  case atStart => exact ⟨0, 0, g2, false, Nat.zero_le _, rfl, rfl, rfl, h2, Nat.zero_le _, hg2, hb2⟩
  case round =>
    clear h2 hb2 hg2
    obtain ⟨k, a', gr, bad, hk, rfl, rfl, rfl, hbx, ha, hgr, hbel⟩ := hrel
    have hbs := hbel.size
    by_cases hkM : k < M
    · obtain ⟨zb, hzb⟩ : ∃ zb, z1[k]? = some zb := ⟨_, List.getElem?_eq_getElem (by rw [← HM.out]; exact hkM)⟩
      obtain ⟨b1, off1, hA1, hb1, hz⟩ := (w1.below hbel).sl k zb hzb
      subst hA1
      have hcap1 := w1.cap
      rw [← HM.out] at hcap1
      have hin : (k : Int) < (M : Int) := by omega
      -- what a reader that is amiss does from here on
      have hB : ∀ w9, K2 wr w9 x x → Below w.heap.size w w9 := fun w9 h => hbel.trans (h.below hbs hxl hxl)
      have HB := Lib.hid hB
      have HW1 := Lib.hid w1
      have HX := Lib.hid hbx
      clear hB hbx hzb w1
      obtain ⟨d, hd⟩ : ∃ d, d = N - a' := ⟨_, rfl⟩
      have hwd : IntKind.i64.wrap ((N : Int) - (a' : Int)) = (d : Int) := by rw [IntKind.wrap_i64]; omega
      have hdl : (l0.drop a').length = d := by rw [List.length_drop, ← HN.out]; exact hd.symm
      have HDL := Lib.hid hdl
      have HDD := Lib.hid hd
      clear hdl hd
      cases zb with
      | true =>
        cases bad with
        | true =>
          go_wp2_with fail
          refine (rint_no x gr _ _ wr HX.out (by show ¬ hasN []; decide)).mono ?_
          rintro e w9 ⟨rfl, g9, h9, hg9, hk9⟩
          have hB9 := HB.out w9 hk9
          go_wp2_with fail
          refine (rdone_bad x g9 w9 h9).mono ?_
          rintro e w8 ⟨rfl, rfl⟩
          go_wp2
          go_roundw
          case rel => exact ⟨k + 1, a', g9, true, by omega, rfl, rfl, by go_num, h9, ha, by omega, hB9⟩
          case measure => simp [intOf]; omega
        | false =>
          by_cases hd4 : d < 4
          · have hno : ¬ hasN (if false = true then [] else l0.drop a') := by
              show ¬ hasN (l0.drop a')
              unfold hasN; rw [HDL.out]; omega
            go_wp2_with fail
            refine (rint_no x gr _ _ wr HX.out hno).mono ?_
            rintro e w9 ⟨rfl, g9, h9, hg9, hk9⟩
            have hB9 := HB.out w9 hk9
            go_wp2_with fail
            refine (rdone_bad x g9 w9 h9).mono ?_
            rintro e w8 ⟨rfl, rfl⟩
            go_wp2
            go_roundw
            case rel => exact ⟨k + 1, a', g9, true, by omega, rfl, rfl, by go_num, h9, ha, by omega, hB9⟩
            case measure => simp [intOf]; omega
          · have hwd4 : a' + 4 ≤ N := by have := HDD.out; omega
            obtain ⟨bb, off, hA0, hbb0, hcell⟩ : ∃ bb off, A0 = some ⟨bb, off, none⟩ ∧ bb < w.heap.size ∧ ∀ i, i < N → ∀ W, Below w.heap.size w W → W.cell? ⟨bb, off + i, none⟩ = some (.int .u8 (co l0 i : Int)) := by
              obtain ⟨_, bb, off, _, _, hA, hlt, _⟩ := w0.sl.at_ (k := a') (by rw [← HN.out]; have := HDD.out; omega)
              refine ⟨bb, off, hA, hlt, fun i hi W hW => ?_⟩
              obtain ⟨y, bb', off', h1, _, hA', _, h4⟩ := w0.sl.at_ (k := i) (by rw [← HN.out]; exact hi)
              rw [hA] at hA'
              injection hA' with hA'
              injection hA' with e1 e2
              subst e1 e2
              rw [co_of' h1]
              exact (hW.cell (p := ⟨bb, off + i, none⟩) hlt).trans h4
            subst hA0
            obtain ⟨x0, hx0⟩ : ∃ y, y = co l0 (a') := ⟨_, rfl⟩
            have p0 : x0 < 256 := by rw [hx0]; exact hbb.co _
            obtain ⟨x1, hx1⟩ : ∃ y, y = co l0 (a' + 1) := ⟨_, rfl⟩
            have p1 : x1 < 256 := by rw [hx1]; exact hbb.co _
            obtain ⟨x2, hx2⟩ : ∃ y, y = co l0 (a' + 2) := ⟨_, rfl⟩
            have p2 : x2 < 256 := by rw [hx2]; exact hbb.co _
            obtain ⟨x3, hx3⟩ : ∃ y, y = co l0 (a' + 3) := ⟨_, rfl⟩
            have p3 : x3 < 256 := by rw [hx3]; exact hbb.co _
            have hq : ∀ W, Below w.heap.size w W → W.cell? ⟨bb, off + a', none⟩ = some (.int .u8 (x0 : Int)) ∧ W.cell? ⟨bb, off + (a' + 1), none⟩ = some (.int .u8 (x1 : Int)) ∧ W.cell? ⟨bb, off + (a' + 2), none⟩ = some (.int .u8 (x2 : Int)) ∧ W.cell? ⟨bb, off + (a' + 3), none⟩ = some (.int .u8 (x3 : Int)) := fun W hW => by
              rw [hx0, hx1, hx2, hx3]
              exact ⟨hcell _ (by omega) W hW, hcell _ (by omega) W hW, hcell _ (by omega) W hW, hcell _ (by omega) W hW⟩
            have HQ := Lib.hid hq
            clear hcell hq
            by_cases h128 : 128 ≤ x0
            · have hno : ¬ hasN (if false = true then [] else l0.drop a') := by
                show ¬ hasN (l0.drop a')
                unfold hasN; rw [co_drop, Nat.add_zero, ← hx0]; omega
              go_wp2_with fail
              refine (rint_no x gr _ _ wr HX.out hno).mono ?_
              rintro e w9 ⟨rfl, g9, h9, hg9, hk9⟩
              obtain ⟨q0, q1, q2, q3⟩ := HQ.out w9 (HB.out w9 hk9)
              clear hx0 hx1 hx2 hx3
              have t0 : decide ((d : Int) < 4) = false := decide_eq_false (by omega)
              have t1 : decide ((128 : Int) ≤ (x0 : Int)) = true := decide_eq_true (by omega)
              have hB9 := HB.out w9 hk9
              go_wp2_with fail
              refine (rdone_bad x g9 w9 h9).mono ?_
              rintro e w8 ⟨rfl, rfl⟩
              go_wp2
              go_roundw
              case rel => exact ⟨k + 1, a', g9, true, by omega, rfl, rfl, by go_num, h9, ha, by omega, hB9⟩
              case measure => simp [intOf]; omega
            · have hri : Calls Try.prog 17 #[.pointer (some ⟨x, 0, none⟩)] wr fun e w' => e = .returned (.int .i64 ((x0 : Int) * 16777216 + (x1 : Int) * 65536 + (x2 : Int) * 256 + (x3 : Int) - 2)) ∧ ∃ g', Bx w' x g' (l0.drop (a' + 4)) false ∧ (g' = gr ∨ g' = x) ∧ K2 wr w' x x := by
                refine (rint_any x gr (l0.drop a') false wr HX.out).mono ?_
                have e1 : rdN (l0.drop a') false = ((w4 (l0.drop a') : Int) - 2, (l0.drop a').drop 4, false) := by
                  unfold rdN
                  rw [if_pos ⟨by rw [HDL.out]; omega, by rw [co_drop, Nat.add_zero, ← hx0]; omega⟩]
                have e2 : w4 (l0.drop a') = x0 * 16777216 + x1 * 65536 + x2 * 256 + x3 := by unfold w4; simp only [co_drop]; rw [hx0, hx1, hx2, hx3]; rfl
                rw [e1, e2, List.drop_drop]
                rintro e w' ⟨rfl, g', h1, h2, h3, _⟩
                exact ⟨by apply ret_int; omega, g', h1, h2, h3⟩
              have HRI := Lib.hid hri
              clear hx0 hx1 hx2 hx3 hri
              go_wp2_with fail
              refine HRI.out.mono ?_
              rintro e w9 ⟨rfl, g9, h9, hg9, hk9⟩
              have hB9 := HB.out w9 hk9
              obtain ⟨q0, q1, q2, q3⟩ := HQ.out w9 hB9
              have HD := Lib.hid (rdone_at x g9 (a' + 4) N l0)
              have t0 : decide ((d : Int) < 4) = false := decide_eq_false (by omega)
              have t1 : decide ((128 : Int) ≤ (x0 : Int)) = false := decide_eq_false (by omega)
              go_wp2
              go_quiet (fail)
              go_wp2_with fail
              refine (HD.out _ (h9.drewN _) HN.out hwd4).mono ?_
              rintro e w8 ⟨rfl, rfl⟩
              by_cases hEQ : a' + 4 = N
              · have e1 : decide (a' + 4 = N) = true := decide_eq_true hEQ
                have t2 : (((a' : Int) + 4) == (N : Int)) = true := beq_iff_eq.2 (by omega)
                rw [e1]
                clear e1 hEQ
                go_wp2
                go_roundw
                case rel => exact ⟨k + 1, a' + 4, g9, false, by omega, by first | rfl | go_num, rfl, by go_num, h9.drewN _, hwd4, by omega, (Gw.Below.drewN hB9 _)⟩
                case measure => simp [intOf]; omega
              · have e1 : decide (a' + 4 = N) = false := decide_eq_false hEQ
                have t2 : (((a' : Int) + 4) == (N : Int)) = false := beq_eq_false_iff_ne.2 (by omega)
                rw [e1]
                clear e1 hEQ
                go_wp2
                go_roundw
                case rel => exact ⟨k + 1, a' + 4, g9, false, by omega, by first | rfl | go_num, rfl, by go_num, h9.drewN _, hwd4, by omega, (Gw.Below.drewN hB9 _)⟩
                case measure => simp [intOf]; omega
      | false =>
        cases bad with
        | true =>
          have hcs := str_nil
          go_wp2_with fail
          refine (rbytes_no x gr _ _ wr HX.out (by show ¬ hasL []; decide)).mono ?_
          rintro e w9 ⟨AT, rfl, g9, h9, hg9, hk9⟩
          have cE : ∀ W, (convert 26 9 (.slice AT 0 0)).run Try.prog W = .ok (.string { data := #[] }) W := fun W => by rw [← str_nil]; exact conv_n (B := 0) (l := []) Sl.nil rfl
          have hB9 := HB.out w9 hk9
          go_wp2
          go_quiet (fail)
          go_wp2_with fail
          refine (rdone_bad x g9 _ (h9.drewN _)).mono ?_
          rintro e w8 ⟨rfl, rfl⟩
          go_wp2
          go_roundw
          case rel => exact ⟨k + 1, a', g9, true, by omega, rfl, rfl, by go_num, h9.drewN _, ha, by omega, Gw.Below.drewN hB9 _⟩
          case measure => simp [intOf]; omega
        | false =>
          by_cases hd2 : d < 2
          · have hno : ¬ hasL (if false = true then [] else l0.drop a') := by
              show ¬ hasL (l0.drop a')
              unfold hasL; rw [HDL.out]; omega
            have t0 : decide ((d : Int) < 2) = true := decide_eq_true (by omega)
            have hcs := str_nil
            go_wp2_with fail
            refine (rbytes_no x gr _ _ wr HX.out hno).mono ?_
            rintro e w9 ⟨AT, rfl, g9, h9, hg9, hk9⟩
            have cE : ∀ W, (convert 26 9 (.slice AT 0 0)).run Try.prog W = .ok (.string { data := #[] }) W := fun W => by rw [← str_nil]; exact conv_n (B := 0) (l := []) Sl.nil rfl
            have hB9 := HB.out w9 hk9
            go_wp2
            go_quiet (fail)
            go_wp2_with fail
            refine (rdone_bad x g9 _ (h9.drewN _)).mono ?_
            rintro e w8 ⟨rfl, rfl⟩
            go_wp2
            go_roundw
            case rel => exact ⟨k + 1, a', g9, true, by omega, rfl, rfl, by go_num, h9.drewN _, ha, by omega, Gw.Below.drewN hB9 _⟩
            case measure => simp [intOf]; omega
          · have hwd2 : a' + 2 ≤ N := by have := HDD.out; omega
            obtain ⟨bb, off, hA0, hbb0, hcell⟩ : ∃ bb off, A0 = some ⟨bb, off, none⟩ ∧ bb < w.heap.size ∧ ∀ i, i < N → ∀ W, Below w.heap.size w W → W.cell? ⟨bb, off + i, none⟩ = some (.int .u8 (co l0 i : Int)) := by
              obtain ⟨_, bb, off, _, _, hA, hlt, _⟩ := w0.sl.at_ (k := a') (by rw [← HN.out]; have := HDD.out; omega)
              refine ⟨bb, off, hA, hlt, fun i hi W hW => ?_⟩
              obtain ⟨y, bb', off', h1, _, hA', _, h4⟩ := w0.sl.at_ (k := i) (by rw [← HN.out]; exact hi)
              rw [hA] at hA'
              injection hA' with hA'
              injection hA' with e1 e2
              subst e1 e2
              rw [co_of' h1]
              exact (hW.cell (p := ⟨bb, off + i, none⟩) hlt).trans h4
            subst hA0
            obtain ⟨x0, hx0⟩ : ∃ y, y = co l0 (a') := ⟨_, rfl⟩
            have p0 : x0 < 256 := by rw [hx0]; exact hbb.co _
            obtain ⟨x1, hx1⟩ : ∃ y, y = co l0 (a' + 1) := ⟨_, rfl⟩
            have p1 : x1 < 256 := by rw [hx1]; exact hbb.co _
            have hq : ∀ W, Below w.heap.size w W → W.cell? ⟨bb, off + a', none⟩ = some (.int .u8 (x0 : Int)) ∧ W.cell? ⟨bb, off + (a' + 1), none⟩ = some (.int .u8 (x1 : Int)) := fun W hW => by
              rw [hx0, hx1]
              exact ⟨hcell _ (by omega) W hW, hcell _ (by omega) W hW⟩
            have HQ := Lib.hid hq
            clear hcell hq
            obtain ⟨kk, hkk⟩ : ∃ kk, kk = x0 * 256 + x1 := ⟨_, rfl⟩
            have hw2 : Gw.w2 (l0.drop a') = kk := by unfold Gw.w2; rw [co_drop, co_drop, Nat.add_zero, ← hx0, ← hx1]; exact hkk.symm
            have hwk : IntKind.i64.wrap ((x0 : Int) * 256 + (x1 : Int)) = (kk : Int) := by rw [IntKind.wrap_i64]; omega
            have hdb : d ≤ N := by have := HDD.out; omega
            obtain ⟨e2, he2⟩ : ∃ e2, e2 = d - 2 := ⟨_, rfl⟩
            have hwe2 : IntKind.i64.wrap ((d : Int) - 2) = (e2 : Int) := by rw [IntKind.wrap_i64]; omega
            have t0 : decide ((d : Int) < 2) = false := decide_eq_false (by omega)
            by_cases hfar : e2 < kk
            · have hno : ¬ hasL (if false = true then [] else l0.drop a') := by
                show ¬ hasL (l0.drop a')
                unfold hasL; rw [hw2, HDL.out]; omega
              have t1 : decide ((e2 : Int) < (kk : Int)) = true := decide_eq_true (by omega)
              clear hx0 hx1 hkk hw2 he2
              have hcs := str_nil
              go_wp2_with fail
              refine (rbytes_no x gr _ _ wr HX.out hno).mono ?_
              rintro e w9 ⟨AT, rfl, g9, h9, hg9, hk9⟩
              have cE : ∀ W, (convert 26 9 (.slice AT 0 0)).run Try.prog W = .ok (.string { data := #[] }) W := fun W => by rw [← str_nil]; exact conv_n (B := 0) (l := []) Sl.nil rfl
              obtain ⟨q0, q1⟩ := HQ.out w9 (HB.out w9 hk9)
              have hB9 := HB.out w9 hk9
              go_wp2
              go_quiet (fail)
              go_wp2_with fail
              refine (rdone_bad x g9 _ (h9.drewN _)).mono ?_
              rintro e w8 ⟨rfl, rfl⟩
              go_wp2
              go_roundw
              case rel => exact ⟨k + 1, a', g9, true, by omega, rfl, rfl, by go_num, h9.drewN _, ha, by omega, Gw.Below.drewN hB9 _⟩
              case measure => simp [intOf]; omega
            · have t1 : decide ((e2 : Int) < (kk : Int)) = false := decide_eq_false (by omega)
              have hend : a' + 2 + kk ≤ N := by have := HDD.out; omega
              obtain ⟨L, hL⟩ : ∃ L, L = (l0.drop (a' + 2)).take kk := ⟨_, rfl⟩
              have hLl : kk = L.length := by rw [hL, List.length_take, List.length_drop, ← HN.out]; omega
              have hrb : Calls Try.prog 16 #[.pointer (some ⟨x, 0, none⟩)] wr fun e w' => ∃ AT, e = .returned (.slice AT kk kk) ∧ SlA w' x x AT L ∧ ∃ g', Bx w' x g' (l0.drop (a' + 2 + kk)) false ∧ (g' = gr ∨ g' = x) ∧ K2 wr w' x x := by
                refine (rbytes_any x gr (l0.drop a') false wr HX.out).mono ?_
                have e1 : rdL (l0.drop a') false = (L, l0.drop (a' + 2 + kk), false) := by
                  unfold rdL
                  rw [if_pos ⟨by rw [HDL.out]; omega, by rw [HDL.out, hw2]; omega⟩, hw2, hL, List.drop_drop, List.drop_drop]
                  congr 2
                  congr 1
                  omega
                rw [e1]
                rintro e w' ⟨AT, m, rfl, hm, h1, _, g', h2, h3, h4, _⟩
                have : m = kk := by rw [hm, hLl]
                subst this
                exact ⟨AT, rfl, h1, g', h2, h3, h4⟩
              have HRB := Lib.hid hrb
              have HLL := Lib.hid hLl
              have HL := Lib.hid hL
              have HHE := Lib.hid hend
              clear hx0 hx1 hkk hw2 he2 hrb hLl hL
              have hcap0 := w0.cap
              rw [← HN.out] at hcap0
              go_wp2_with fail
              refine HRB.out.mono ?_
              rintro e w9 ⟨AT, rfl, hS9, g9, h9, hg9, hk9⟩
              have hB9 := HB.out w9 hk9
              obtain ⟨q0, q1⟩ := HQ.out w9 hB9
              obtain ⟨τ, hτ⟩ : ∃ τ, τ = str L := ⟨_, rfl⟩
              have cvA : ∀ n, (convert 26 9 (.slice AT kk kk)).run Try.prog (w9.drewN n) = .ok (.string τ) (w9.drewN n) := fun n => by rw [hτ]; exact conv_n (hS9.sl.drewN n) HLL.out
              have HD := Lib.hid (rdone_at x g9 (a' + 2 + kk) N l0)
              by_cases hcc : c0 = a' + 2
              · have hk0 : kk = 0 := by omega
                subst hcc
                have cvS : ∀ n, (convert 26 9 (.slice (some ⟨bb, off, none⟩) kk 0)).run Try.prog (w9.drewN n) = .ok (.string τ) (w9.drewN n) := fun n => by
                  have hL0 : L = [] := List.eq_nil_of_length_eq_zero (by rw [← HLL.out]; exact hk0)
                  rw [hτ, hL0]; exact conv_n (B := 0) Sl.nil hk0
                clear hτ hk0
                go_wp2
                go_quiet (fail)
                go_wp2
                go_quiet (fail)
                go_wp2_with fail
                refine (HD.out _ (h9.drewN _) HN.out hend).mono ?_
                rintro e w8 ⟨rfl, rfl⟩
                by_cases hEQ : a' + 2 + kk = N
                · have e1 : decide (a' + 2 + kk = N) = true := decide_eq_true hEQ
                  have t2 : (((a' : Int) + 2 + (kk : Int)) == (N : Int)) = true := beq_iff_eq.2 (by omega)
                  rw [e1]
                  clear e1 hEQ
                  go_wp2
                  go_roundw
                  case rel => exact ⟨k + 1, a' + 2 + kk, g9, false, by omega, by first | rfl | go_num, rfl, by go_num, h9.drewN _, hend, by omega, Gw.Below.drewN hB9 _⟩
                  case measure => simp [intOf]; omega
                · have e1 : decide (a' + 2 + kk = N) = false := decide_eq_false hEQ
                  have t2 : (((a' : Int) + 2 + (kk : Int)) == (N : Int)) = false := beq_eq_false_iff_ne.2 (by omega)
                  rw [e1]
                  clear e1 hEQ
                  go_wp2
                  go_roundw
                  case rel => exact ⟨k + 1, a' + 2 + kk, g9, false, by omega, by first | rfl | go_num, rfl, by go_num, h9.drewN _, hend, by omega, Gw.Below.drewN hB9 _⟩
                  case measure => simp [intOf]; omega
              · have cvS : ∀ n, (convert 26 9 (.slice (some ⟨bb, off + (a' + 2), none⟩) kk (c0 - (a' + 2)))).run Try.prog (w9.drewN n) = .ok (.string τ) (w9.drewN n) := fun n => by
                  rw [hτ, HL.out] 
                  refine conv_n (B := w.heap.size) (fun i y hy => ?_) (by rw [← HL.out]; exact HLL.out)
                  have hi := (List.getElem?_eq_some_iff.1 hy).1
                  rw [List.length_take, List.length_drop] at hi
                  rw [List.getElem?_take, if_pos (by omega), List.getElem?_drop] at hy
                  obtain ⟨h1, bb', off', h2, h3, h4⟩ := w0.sl _ y hy
                  injection h2 with h2
                  injection h2 with h5 h6
                  subst h5 h6
                  exact ⟨h1, bb, off + (a' + 2), rfl, h3, by rw [Nat.add_assoc]; exact (hB9.cell (p := ⟨bb, off + (a' + 2 + i), none⟩) h3).trans h4⟩
                clear hτ
                go_wp2
                go_quiet (fail)
                go_wp2
                go_quiet (fail)
                go_wp2_with fail
                refine (HD.out _ (h9.drewN _) HN.out hend).mono ?_
                rintro e w8 ⟨rfl, rfl⟩
                by_cases hEQ : a' + 2 + kk = N
                · have e1 : decide (a' + 2 + kk = N) = true := decide_eq_true hEQ
                  have t2 : (((a' : Int) + 2 + (kk : Int)) == (N : Int)) = true := beq_iff_eq.2 (by omega)
                  rw [e1]
                  clear e1 hEQ
                  go_wp2
                  go_roundw
                  case rel => exact ⟨k + 1, a' + 2 + kk, g9, false, by omega, by first | rfl | go_num, rfl, by go_num, h9.drewN _, hend, by omega, Gw.Below.drewN hB9 _⟩
                  case measure => simp [intOf]; omega
                · have e1 : decide (a' + 2 + kk = N) = false := decide_eq_false hEQ
                  have t2 : (((a' : Int) + 2 + (kk : Int)) == (N : Int)) = false := beq_eq_false_iff_ne.2 (by omega)
                  rw [e1]
                  clear e1 hEQ
                  go_wp2
                  go_roundw
                  case rel => exact ⟨k + 1, a' + 2 + kk, g9, false, by omega, by first | rfl | go_num, rfl, by go_num, h9.drewN _, hend, by omega, Gw.Below.drewN hB9 _⟩
                  case measure => simp [intOf]; omega
    · go_wp2_with fail
      refine (answers_any wr).mono ?_
      rintro e w8 ⟨rfl, hb8⟩
      go_wp2
      go_ret
      exact ⟨rfl, hbel.trans (hb8.mono hbs)⟩

set_option maxRecDepth 100000 in
theorem lifted (os : Os) (started : os.Started) (H : Type) (enc : TypeId × Value → H) :
    ReturnsInHanded {} Try.checked os 4 .any (Rows.wordReadsSpec.pre6 enc Try.prog Try.f4 Rows.wordReadsRow.domain false) (Rows.wordReadsSpec.post enc Try.prog Try.f4 false true false false) := by
  refine returnsInHanded_of_change_sized (C := Try.checked) own started (by kernel_rfl) Try.func4
    (ChangeSpec.witness6 (enc := enc) (C := Try.checked) false ⟨#[], #[.slice none 0 0, .slice none 0 0], []⟩ 8 (by kernel_rfl) (by kernel_rfl) (by kernel_rfl) (by kernel_rfl)) ?_
  intro W base args ds gs before hval0 hW _hcnd hsz0 _
  have hval : ∀ (j : Nat) t v, Try.f4.params[j]? = some t → args[j]? = some v → Value.okWide Try.prog W .any base t v := hval0
  have hW' := hW
  obtain ⟨p, q, hA0, hV, rfl, _hfz, _hnd⟩ := hW
  have hA : DataW.TrodAll enc Try.prog W 0 (fun _ => true) true Try.f4.params.toList args.toList ds p := hA0
  have hsz : (DataW.weightsEach Try.prog (Try.f4.params.toList ++ Rows.wordReadsSpec.plain.varTypes Try.prog) (ds ++ gs)).all (· ≤ reachBytes) = true := hsz0
  rw [Try.params4] at hA hval hsz
  obtain ⟨v0, vs0, d0, ds0, p0, q0, hargs, rfl, rfl, h0, r0⟩ := trodAll_cons hA
  obtain ⟨v1, vs1, d1, ds1, p1, q1, rfl, rfl, rfl, h1, r1⟩ := trodAll_cons r0
  obtain ⟨rfl, rfl, rfl⟩ := trodAll_nil r1
  obtain rfl : args = #[v0, v1] := by cases args; simp_all
  obtain ⟨rfl, rfl⟩ := trodVars_none hV
  have k0 := h0
  have lt0 : ∀ x ∈ p0, x.block < W.heap.size := by obtain ⟨m, hm⟩ := k0; exact DataW.trod_lt m _ _ _ hm
  obtain ⟨A0, c0, l0, rfl, w0, sz0⟩ := open_bytes Try.underlying26 Try.underlying5 (by kernel_rfl) (hval 0 26 v0 rfl rfl) h0
  have s0 := sized_bytes hsz (j := 0) (t := 26) (e := 5) rfl rfl Try.underlying26 (by kernel_rfl) sz0
  have k1 := h1
  have lt1 : ∀ x ∈ p1, x.block < W.heap.size := by obtain ⟨m, hm⟩ := k1; exact DataW.trod_lt m _ _ _ hm
  obtain ⟨A1, c1, z1, rfl, w1, sz1⟩ := open_boolz Try.underlying42 Try.underlying4 (by kernel_rfl) (hval 1 42 v1 rfl rfl) h1
  have s1 := sized_bytes hsz (j := 1) (t := 42) (e := 4) rfl rfl Try.underlying42 (by kernel_rfl) sz1
  clear hA0 hval0 hsz0 hsz
  refine (walk A0 c0 l0 A1 c1 z1 W w0 s0 w1 s1).mono fun e W' ⟨he, bel⟩ => ?_
  subst he
  exact ⟨_, rfl, _, _, _, [], _, [], hW', trodAll_mk1 (shut_bool Try.underlying4 _), (trodAll_cons_mk (Below.trod laidOut (by kernel_rfl) (of_decide_eq_true (by kernel_rfl)) k0 bel lt0) (trodAll_cons_mk (Below.trod laidOut (by kernel_rfl) (of_decide_eq_true (by kernel_rfl)) k1 bel lt1) trodAll_mk0)), rfl, bel.frame _, fun h => by cases h⟩

theorem over : Rows.wordReadsRow.holds Try.pinned (OpenSpec.ofChange Rows.wordReadsSpec) :=
  OpenClaim.holds_of_wide 4 Try.f4 rfl rfl rfl rfl rfl rfl rfl ⟨rfl, rfl, rfl, rfl, rfl⟩ rfl rfl rfl rfl rfl (by kernel_rfl) Try.func4 (by kernel_rfl)
    (of_decide_eq_true (by kernel_rfl)) (by unfold Func.isWrapper; first | (rw [if_pos (by decide +kernel)]; kernel_rfl) | (rw [if_neg (by decide +kernel)]; exact ⟨rfl, rfl⟩))
    (fun os started H enc _ => lifted os started H enc)

end Go.Proofs.Ytpkdlblncgldmaa.wordReads
namespace Go.Proofs.Ytpkdlblncgldmaa
/-- The statement. -/
theorem wordReads_holds : Rows.WordReadsSaid := wordReads.over
#print axioms wordReads_holds
end Go.Proofs.Ytpkdlblncgldmaa

