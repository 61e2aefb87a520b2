/- For every input WordWrites returns true, and every argument reads behind the call as it did before, where what comes in is of bulk at most 1048576. -/
import Derived.Test.YtpkdlblncgldmaaRows
import Derived.ProofKit
import Derived.OpenShut
import Derived.SizedLaws
import Derived.ChangeOld
import Derived.Carry
import Derived.Test.YtpkdlblncgldmaaLawb
import Derived.Test.YtpkdlblncgldmaaBulk
import Derived.JoinedCond
import Derived.Test.YtpkdlblncgldmaaLawo
import Derived.Test.YtpkdlblncgldmaaWde
import Derived.Test.YtpkdlblncgldmaaWdf
import Derived.Test.YtpkdlblncgldmaaGty
namespace Go.Proofs.Ytpkdlblncgldmaa.wordWrites
open Go.ChangeShapes Go.WideShapes Go.ChangeAt Go.RowKit Go.Shelf Gw Pol

theorem own : ownKnob Try.prog.godebug = none := by kernel_rfl
theorem laidOut : laidOutB Try.prog = true := by kernel_rfl
/-- What the first loop has made. -/
def WtRel (w : World) (p q R : Nat) (N : Nat → Int) (l : Nat → List Nat) (v5 : Value) (wr : World) : Prop :=
  ∃ (k gw gk : Nat) (lw lk : List Nat) (b : Bool), k ≤ R ∧ v5 = .int .i64 (k : Int) ∧ Bx wr p gw lw b ∧ Bx wr q gk lk b ∧ Jn N l k lw lk b ∧ (gw ≠ q ∧ gk ≠ p ∧ gw ≠ gk ∧ w.heap.size ≤ gw ∧ w.heap.size ≤ gk) ∧ Below w.heap.size w wr
/-- What the second one has read. -/
def RdRel (w : World) (x R : Nat) (N : Nat → Int) (l : Nat → List Nat) (v9 : Value) (wr : World) : Prop :=
  ∃ (k gr : Nat), k ≤ R ∧ v9 = .int .i64 (k : Int) ∧ Bx wr x gr (seg N l k (R - k)) false ∧ w.heap.size ≤ gr ∧ Below w.heap.size w wr
theorem dn_seg (N : Nat → Int) (l : Nat → List Nat) (k R : Nat) (h : k < R) : dn (seg N l k (R - k)) false = false := by
  obtain ⟨n, hn⟩ : ∃ n, R - k = n + 1 := ⟨R - k - 1, by omega⟩
  rw [hn]
  have := seg_pos N l k n
  unfold dn
  simp [this]
set_option maxRecDepth 100000 in
set_option maxHeartbeats 4000000 in
theorem walk (A0 : Option Addr) (c0 R : Nat) (N : Nat → Int) (Q : Nat → Option Addr) (C : Nat → Nat) (l : Nat → List Nat) (w : World) (hO : OpsIn w w.heap.size A0 c0 R N Q C l) (hT : tot l R + R ≤ 1048576) :
    Calls Try.prog 3 #[.slice A0 R c0] w fun e w' => e = .returned (.bool true) ∧ Below w.heap.size w w' := by
  obtain ⟨p, hp⟩ : ∃ p, p = w.heap.size := ⟨_, rfl⟩
  have HNEW := Lib.hid (wnew' w)
  rw [← hp] at HNEW
  have hpl : w.heap.size ≤ p := by omega
  clear hp
  go_enter Try.func3, Try.ntmps3
  go_wp2_with fail
  refine HNEW.out.mono ?_
  rintro e w1 ⟨rfl, h1, hb1, hz1⟩
  obtain ⟨q, hq⟩ : ∃ q, q = w1.heap.size := ⟨_, rfl⟩
  obtain ⟨w2, hw2⟩ : ∃ w2, w2 = w1.alloc (.cells #[.slice none 0 0, .bool false] 28) := ⟨_, rfl⟩
  have h1' : Bx w2 p p [] false := by rw [hw2]; exact h1.alloc _
  have h2 : Bx w2 q q [] false := by rw [hw2, hq]; exact Bx.new w1 _
  have hB2 : Below w.heap.size w w2 := by rw [hw2]; exact (hb1.mono hpl).alloc (by omega) _
  have hpq : p < q := by omega
  go_wp2
  rw [← hw2, ← hq]
  clear hw2 hq h1 hb1 hz1 HNEW
  have hcapO := hO.cap
  go_loopw [5] (WtRel w p q R N l) (fun i _ => R - (intOf i).toNat)
  case atStart => exact ⟨0, p, q, [], [], false, Nat.zero_le _, rfl, h1', h2, Jn.zero N l, ⟨by omega, by omega, by omega, hpl, by omega⟩, hB2⟩
  case round =>
    clear h1' h2 hB2
    obtain ⟨k, gw, gk, lw, lk, b, hk, rfl, hbw, hbk, hJ, ⟨hd1, hd2, hd3, hd4, hd5⟩, hbel⟩ := hrel
    have hbs := hbel.size
    by_cases hkR : k < R
    · have hk1 := tot_mono (l := l) (show k + 1 ≤ R from hkR)
      have htk : tot l (k + 1) = tot l k + (l k).length := rfl
      have htl : tot l k ≤ 1048576 := by omega
      obtain ⟨b0, off, hA0, hb0, hc0, hc1, hI, hwf⟩ := hO.at_ k hkR
      subst hA0
      obtain ⟨L, hL⟩ : ∃ L, L = l k := ⟨_, rfl⟩
      obtain ⟨z, hz⟩ : ∃ z, z = N k := ⟨_, rfl⟩
      obtain ⟨qk, hqk⟩ : ∃ qk, qk = Q k := ⟨_, rfl⟩
      obtain ⟨ck, hck⟩ : ∃ ck, ck = C k := ⟨_, rfl⟩
      obtain ⟨m, hm⟩ : ∃ m, m = L.length := ⟨_, rfl⟩
      rw [← hL, ← hqk, ← hck] at hI
      rw [← hL, ← hqk, ← hck, ← hm] at hc1
      rw [← hz] at hc0 hwf
      have hcells : ∀ W, Below w.heap.size w W → W.cell? ⟨b0, off + k * 2, none⟩ = some (.int .i64 z) ∧ W.cell? ⟨b0, off + k * 2 + 1, none⟩ = some (.slice qk m ck) := fun W hB =>
        ⟨(hB.cell (p := ⟨b0, off + k * 2, none⟩) hb0).trans hc0, (hB.cell (p := ⟨b0, off + k * 2 + 1, none⟩) hb0).trans hc1⟩
      obtain ⟨d0, d1⟩ := hcells wr hbel
      have hin : (k : Int) < (R : Int) := by omega
      have hlenw := hJ.lenw
      have hlenk := hJ.len
      have hbn := hJ.nil
      have hjb : 0 < m → Jn N l (k + 1) (wrL lw b L).1 (bkL lk b L).1 (bkL lk b L).2 := fun h => by rw [hL]; exact hJ.bytes (by rw [← hL, ← hm]; exact h)
      have hjn : ¬ 0 < m → Jn N l (k + 1) (wrN lw b z).1 (bkN lk b z).1 (bkN lk b z).2 := fun h => by rw [hz]; exact hJ.num (by rw [← hL, ← hm]; omega)
      have hgwl := hbw.glt
      have hgkl := hbk.glt
      have hpwl := hbw.lt
      have hqwl := hbk.lt
      have HM := Lib.hid hm
      have HC := Lib.hid hcells
      have HJB := Lib.hid hjb
      have HJN := Lib.hid hjn
      have hmb : m ≤ 1048576 := by rw [hm, hL]; omega
      clear hJ hL hz hqk hck hm hcells hjb hjn hc0 hc1 htk
      by_cases hm0 : 0 < m
      · have HW := Lib.hid (wbytes_any p gw lw b qk m ck L wr hbw hbn HM.out ((hI.below hbel).sl.aw hpl hd4) (by omega))
        clear hbw
        go_wp2_with fail
        refine HW.out.mono ?_
        rintro e w3 ⟨rfl, g3, h3, hg3, hk3⟩
        have hbk3 := hbk.k2 hk3 (by omega) (by omega) (by omega) (by omega)
        have hB3 := hbel.trans (hk3.below hbs hpl hd4)
        have hz3 := hk3.size
        obtain ⟨e0, e1⟩ := HC.out w3 hB3
        have hfar : g3 ≠ q ∧ g3 ≠ gk := far_step hg3 hqwl hgkl (by omega) (by omega) hd2 (by omega) hk3
        have HL := Lib.hid (blay_any q gk lk b qk m ck L w3 hbk3 HM.out ((hI.below hB3).more hB3.size) (by rw [← HM.out]; omega))
        have hg3l := h3.glt
        have hp3l := h3.lt
        clear hbk hk3 hbel HW
        go_wp2_with fail
        refine HL.out.mono ?_
        rintro e w4 ⟨rfl, g4, h4, hg4, hk4⟩
        have hw4 := h3.k2 hk4 (by omega) (by omega) (by omega) (by omega)
        have hB4 := hB3.trans (hk4.below hB3.size (by omega) hd5)
        have hz4 := hk4.size
        rw [wr_bk_L lw lk b L] at hw4
        go_wp2
        go_roundw
        case rel => exact ⟨k + 1, g3, g4, _, _, _, by omega, by go_num, hw4, h4, HJB.out hm0, ⟨by omega, by omega, by omega, by omega, by omega⟩, hB4⟩
        case measure => simp [intOf]; omega
      · obtain rfl : m = 0 := by omega
        have HW := Lib.hid (wint_any p gw lw b z wr hbw hbn (by omega))
        clear hbw
        go_wp2_with fail
        refine HW.out.mono ?_
        rintro e w3 ⟨rfl, g3, h3, hg3, hk3⟩
        have hbk3 := hbk.k2 hk3 (by omega) (by omega) (by omega) (by omega)
        have hB3 := hbel.trans (hk3.below hbs hpl hd4)
        have hz3 := hk3.size
        obtain ⟨e0, e1⟩ := HC.out w3 hB3
        have hfar : g3 ≠ q ∧ g3 ≠ gk := far_step hg3 hqwl hgkl (by omega) (by omega) hd2 (by omega) hk3
        have hg3l := h3.glt
        have hp3l := h3.lt
        obtain ⟨W3, hW3⟩ : ∃ W3, W3 = w3.alloc (.cells #[.int .i64 z] 3) := ⟨_, rfl⟩
        have hZ : InZ W3 (w3.heap.size + 1) (some ⟨w3.heap.size, 0, none⟩) 1 [z] := by
          rw [hW3]
          refine ⟨fun i x hx => ?_, Nat.le_refl _, fun e => by cases e⟩
          cases i with
          | zero =>
            simp at hx; subst hx
            exact ⟨hwf, w3.heap.size, 0, rfl, by omega, World.cell?_alloc_new w3 #[.int .i64 z] 3 0⟩
          | succ i => simp at hx
        have hg4l := hbk3.glt
        have hq4l := hbk3.lt
        have hkW : K2 w3 W3 q gk := by rw [hW3]; exact K2.alloc w3 _ q gk
        have HP := Lib.hid (bput_any q gk lk b (some ⟨w3.heap.size, 0, none⟩) 1 1 (w3.heap.size + 1) [z] W3 (by rw [hW3]; exact hbk3.alloc _) rfl hZ (fun b1 o1 e _ => by injection e with e; injection e with e _; omega) (by show lk.length + 4 * 1 ≤ _; omega))
        have hzW : w3.heap.size ≤ W3.heap.size := by rw [hW3]; simp
        clear hbk hk3 hbel HW hZ hwf
        go_wp2_with fail
        rw [← hW3]
        refine HP.out.mono ?_
        rintro e w4 ⟨rfl, g4, h4, hg4, hk4⟩
        have hk4' : K2 w3 w4 q gk := hkW.trans hk4 (.inl rfl)
        have hw4 := h3.k2 hk4' (by omega) (by omega) (by omega) (by omega)
        have hB4 := hB3.trans (hk4'.below hB3.size (by omega) hd5)
        have hz4 := hk4'.size
        rw [wr_bk_N lw lk b z] at hw4
        have h4' : Bx w4 q g4 (bkN lk b z).1 (bkN lk b z).2 := h4
        clear hW3
        go_wp2
        go_roundw
        case rel => exact ⟨k + 1, g3, g4, _, _, _, by omega, by go_num, hw4, h4', HJN.out (by first | trivial | simp), ⟨by omega, by omega, by omega, by omega, by omega⟩, hB4⟩
        case measure => simp [intOf]; omega
    · obtain rfl : k = R := by omega
      have htl : tot l k ≤ 1048576 := by omega
      have hll := hJ.len
      have hpwl := hbw.lt
      have hqwl := hbk.lt
      cases b with
      | true =>
        go_wp2_with fail
        refine (wout_bad p gw lw wr hbw).mono ?_
        rintro e w3 ⟨rfl, rfl⟩
        have hfl := hbk.flag
        have HA := Lib.hid (answers_any w3)
        go_wp2_with fail
        refine HA.out.mono ?_
        rintro e w4 ⟨rfl, hb4⟩
        go_wp2
        go_ret
        exact ⟨rfl, hbel.trans (hb4.mono hbs)⟩
      | false =>
        obtain ⟨hsame, hacc, hok⟩ := hJ.same rfl
        subst hsame
        obtain ⟨n, hn⟩ : ∃ n, n = lw.length := ⟨_, rfl⟩
        have HO := Lib.hid (wout_any p gw lw wr hbw (by omega))
        rw [← hn] at HO
        have hHN := Lib.hid hn
        obtain ⟨Ak, nk, hck, hRk⟩ := hbk.row
        have hIk := hRk.inn
        rw [← hn] at hck
        have hfl := hbk.flag
        have hnb : n ≤ 8388608 := by omega
        have hOKK := Lib.hid hok
        have hACC := Lib.hid hacc
        clear hn hJ hok hacc hll
        go_wp2_with fail
        refine HO.out.mono ?_
        rintro e w3 ⟨A3, c3, rfl, hown, hb3⟩
        have hB3 := hbel.trans (hb3.mono hbs)
        have hfl3 := (hb3.cell (p := ⟨q, 1, none⟩) hqwl).trans hfl
        have hck3 := (hb3.cell (p := ⟨q, 0, none⟩) hqwl).trans hck
        have hz3 := hb3.size
        obtain ⟨σ, hσ⟩ : ∃ σ, σ = str lw := ⟨_, rfl⟩
        have cv1 : ∀ W, Below w3.heap.size w3 W → (convert 26 9 (.slice A3 n c3)).run Try.prog W = .ok (.string σ) W := fun W hW => by rw [hσ]; exact conv_n (hown.kept hW).sl hHN.out
        have cv2 : ∀ W, Below w3.heap.size w3 W → (convert 26 9 (.slice Ak n nk)).run Try.prog W = .ok (.string σ) W := fun W hW => by rw [hσ]; exact conv_n ((hIk.below hb3).below (hW.mono hz3)).sl hHN.out
        have CV1 := Lib.hid cv1
        have CV2 := Lib.hid cv2
        have HCK := Lib.hid hck3
        have hq3 : q < w3.heap.size := by omega
        have HIN := Lib.hid hown.inn
        clear hown hIk hRk hbw hbk hfl hck cv1 cv2 hσ hb3 HO hbel
        go_wp2
        rename_i KK hKK
        refine Gt.regionA [Gt.Is (.bool true), Gt.Is (.bool false), Gt.Is (.bool false), Gt.Is (.slice A3 n c3), Gt.Is (.string σ), Gt.Is (.pointer (some ⟨q, 0, none⟩)), Gt.Is (.pointer (some ⟨q, 0, none⟩)), Gt.Is (.pointer (some ⟨q, 0, none⟩)), Gt.Is (.slice Ak n nk), Gt.Is (.string σ), Gt.Is (.bool false), Gt.Is (.bool false)] 126
          [⟨[], [7], none⟩, ⟨[(0, 74)], [], none⟩, ⟨[(1, 75)], [], none⟩, ⟨[(2, 76)], [6], some (76, false)⟩, ⟨[(2, 76), (3, 77)], [], some (76, false)⟩, ⟨[(2, 76)], [4], some (76, false)⟩, ⟨[(2, 76), (5, 79)], [], some (76, false)⟩, ⟨[(2, 76), (6, 80)], [], some (76, false)⟩, ⟨[(2, 76), (7, 81)], [], some (76, false)⟩, ⟨[(2, 76), (8, 82)], [], some (76, false)⟩, ⟨[(2, 76), (4, 78), (9, 83)], [], some (76, false)⟩, ⟨[(2, 76), (10, 84)], [], none⟩]
          [(0, 74), (1, 75), (2, 76), (3, 77), (4, 78), (5, 79), (6, 80), (7, 81), (8, 82), (9, 83), (10, 84), (11, 85)] (by kernel_rfl) (by kernel_rfl) (by kernel_rfl) (by kernel_rfl) ?_ ?_ ?_
        · simp only [Gt.Monos]
          repeat' apply And.intro
          all_goals (first | exact trivial | exact Gt.Is.mono _)
        · simp only [Gt.Obs]
          repeat' apply And.intro
          all_goals try exact trivial
          all_goals (
            intro a w5 hg
            have hg' : Below w3.heap.size w3 w5 := hg
            simp only [Gt.Pre, Gt.Kept, Gt.Guarded, Gt.tys, List.getD_cons_zero, List.getD_cons_succ, Gt.Is, Nat.zero_add, Nat.reduceAdd]
            intros
            try (refine ⟨fun _ => ?_, fun hne => absurd (by assumption) hne⟩))
          all_goals (first
            | exact Gt.ok_move rfl (by assumption)
            | exact Gt.ok_assign rfl (by assumption)
            | exact Gt.ok_pick rfl (by assumption) (by rw [if_pos rfl]; assumption)
            | (exact Gt.ok_convert rfl (by assumption) (CV1.out w5 hg') rfl)
            | (exact Gt.ok_convert rfl (by assumption) (CV2.out w5 hg') rfl)
            | (refine Gt.ok_run ?_ rfl
               have k5 := (hg'.cell (p := ⟨q, 0, none⟩) hq3).trans HCK.out
               simp only [execOp, *]
               go_simp
               done)
            | (refine Gt.ok_run ?_ rfl
               simp only [execOp, *]
               go_simp
               done))
        intro a w5 hg
        have hg' : Below w3.heap.size w3 w5 := hg
        simp only [Gt.Pre, Gt.tys, List.getD_cons_zero, List.getD_cons_succ, Gt.Is]
        intro h0 h1 h2 h3 h4 h5 h6 h7 h8 h9 h10 h11
        show KK _ _
        refine hKK _ _ ?_
        simp only [Gt.puts, List.foldl_cons, List.foldl_nil, h0, h1, h2, h3, h4, h5, h6, h7, h8, h9, h10, h11]
        simp only [Act.put, List.setIfInBounds_toArray, List.set_cons_zero, List.set_cons_succ]
        have hB5 := hB3.trans (hg'.mono hB3.size)
        have hz5 := hg'.size
        have HIN5 := Lib.hid ((HIN.out.below hg').more hz5)
        have hB5s := hB5.size
        clear hB3 hfl3 hck3
        go_wp2_with fail
        refine (rread_any A3 n c3 lw w5 hHN.out HIN5.out (by rw [← hHN.out]; omega)).mono ?_
        rintro e w6 ⟨x, gx, rfl, hx, hxl, hgx, hb6⟩
        have hB6 := hB5.trans (hb6.mono hB5s)
        have hz6 := hb6.size
        have hx0 : Bx w6 x gx (seg N l 0 (k - 0)) false := by rw [Nat.sub_zero, ← acc_all, ← hACC.out]; exact hx
        have hxw : w.heap.size ≤ x := by omega
        obtain ⟨R, hR⟩ : ∃ R, R = k := ⟨_, rfl⟩
        rw [← hR] at hx0 hcapO hT hOKK hO ⊢
        clear hR hx hb6 hB5
        go_wp2
        go_loopw [9] (RdRel w x R N l) (fun i _ => R - (intOf i).toNat)
        case atStart => exact ⟨0, gx, Nat.zero_le _, rfl, hx0, by omega, hB6⟩
        case round =>
          clear hx0 hB6
          obtain ⟨k, gr, hk, rfl, hbx, hgr, hbel⟩ := hrel
          have hbs := hbel.size
          by_cases hkR : k < R
          · have hk1 := tot_mono (l := l) (show k + 1 ≤ R from hkR)
            have htk : tot l (k + 1) = tot l k + (l k).length := rfl
            obtain ⟨b0, off, hA0, hb0, hc0, hc1, hI, hwf⟩ := hO.at_ k hkR
            subst hA0
            obtain ⟨n', hn'⟩ : ∃ n', R - k = n' + 1 := ⟨R - k - 1, by omega⟩
            have hn2 : R - (k + 1) = n' := by omega
            have hd0 := dn_seg N l k R hkR
            rw [hn'] at hbx hd0
            have hsl : 0 < (l k).length → rdL (seg N l k (n' + 1)) false = (l k, seg N l (k + 1) n', false) := fun h => seg_lay h (hOKK.out k hkR)
            have hsn : (l k).length = 0 → rdN (seg N l k (n' + 1)) false = (N k, seg N l (k + 1) n', false) := fun h => seg_num h (hOKK.out k hkR)
            obtain ⟨S, hS⟩ : ∃ S, S = seg N l k (n' + 1) := ⟨_, rfl⟩
            obtain ⟨S', hS'⟩ : ∃ S', S' = seg N l (k + 1) n' := ⟨_, rfl⟩
            rw [← hS] at hbx hd0 hsl hsn
            rw [← hS'] at hsl hsn
            obtain ⟨L, hL⟩ : ∃ L, L = l k := ⟨_, rfl⟩
            obtain ⟨z, hz⟩ : ∃ z, z = N k := ⟨_, rfl⟩
            obtain ⟨qk, hqk⟩ : ∃ qk, qk = Q k := ⟨_, rfl⟩
            obtain ⟨ck, hck⟩ : ∃ ck, ck = C k := ⟨_, rfl⟩
            obtain ⟨m, hm⟩ : ∃ m, m = L.length := ⟨_, rfl⟩
            rw [← hL, ← hqk, ← hck] at hI
            rw [← hL, ← hqk, ← hck, ← hm] at hc1
            rw [← hz] at hc0 hwf hsn
            rw [← hL, ← hm] at hsl hsn
            have hcells : ∀ W, Below w.heap.size w W → W.cell? ⟨b0, off + k * 2, none⟩ = some (.int .i64 z) ∧ W.cell? ⟨b0, off + k * 2 + 1, none⟩ = some (.slice qk m ck) := fun W hB =>
              ⟨(hB.cell (p := ⟨b0, off + k * 2, none⟩) hb0).trans hc0, (hB.cell (p := ⟨b0, off + k * 2 + 1, none⟩) hb0).trans hc1⟩
            obtain ⟨d0, d1⟩ := hcells wr hbel
            have hin : (k : Int) < (R : Int) := by omega
            obtain ⟨τ, hτ⟩ : ∃ τ, τ = str L := ⟨_, rfl⟩
            have hcvL : ∀ W, Below w.heap.size w W → (convert 26 9 (.slice qk m ck)).run Try.prog W = .ok (.string τ) W := fun W hB => by rw [hτ]; exact conv_n (hI.below hB).sl hm
            have hcvA : ∀ W AT, SlA W x x AT L → (convert 26 9 (.slice AT m m)).run Try.prog W = .ok (.string τ) W := fun W AT h => by rw [hτ]; exact conv_n h.sl hm
            have hrb : 0 < m → ∀ W, Bx W x gr S false → Calls Try.prog 16 #[.pointer (some ⟨x, 0, none⟩)] W fun e w' => ∃ AT, e = .returned (.slice AT m m) ∧ SlA w' x x AT L ∧ ∃ g', Bx w' x g' S' false ∧ (g' = gr ∨ g' = x) ∧ K2 W w' x x := fun h W hW => by
              refine (rbytes_any x gr S false W hW).mono ?_
              rw [hsl h]
              rintro e w' ⟨AT, m2, rfl, hm2, h1, _, g', h2, h3, h4, _⟩
              have : m2 = m := by rw [hm2, hm]
              subst this
              exact ⟨AT, rfl, h1, g', h2, h3, h4⟩
            have hri : ¬ 0 < m → ∀ W, Bx W x gr S false → Calls Try.prog 17 #[.pointer (some ⟨x, 0, none⟩)] W fun e w' => e = .returned (.int .i64 z) ∧ ∃ g', Bx w' x g' S' false ∧ (g' = gr ∨ g' = x) ∧ K2 W w' x x := fun h W hW => by
              refine (rint_any x gr S false W hW).mono ?_
              rw [hsn (by omega)]
              rintro e w' ⟨rfl, g', h2, h3, h4, _⟩
              exact ⟨rfl, g', h2, h3, h4⟩
            have HD := Lib.hid (show Calls Try.prog 15 #[.pointer (some ⟨x, 0, none⟩)] wr fun e w' => e = .returned (.bool false) ∧ w' = wr from hd0 ▸ rdone_any x gr S false wr hbx)
            have HX := Lib.hid hbx
            have HC := Lib.hid hcells
            have HVL := Lib.hid hcvL
            have HVA := Lib.hid hcvA
            have HRB := Lib.hid hrb
            have HRI := Lib.hid hri
            have HN2 := Lib.hid hn2
            have HS' := Lib.hid hS'
            clear hbx hd0 hsl hsn hS hS' hL hz hqk hck hm hcells hτ hcvL hcvA hrb hri hn' hn2 hc0 hc1 hI hO
            by_cases hm0 : 0 < m
            · go_wp2_with fail
              refine HD.out.mono ?_
              rintro e w8 ⟨rfl, rfl⟩
              have HRB2 := Lib.hid (HRB.out hm0)
              have cL := HVL.out w8.drew hbel.drew
              clear HD HRB HRI
              go_wp2
              go_region_with (go_at_call 16; refine (HRB2.out _ HX.out.drew).mono ?_; rintro e w9 ⟨AT, rfl, hSA, g9, h9, hg9, hk9⟩; have hB9 := hbel.drew.trans (hk9.below (show w.heap.size ≤ w8.drew.heap.size from hbs) hxw hxw); have cA := HVA.out w9 AT hSA; have cL9 := HVL.out w9 hB9; have f1 := (HC.out w9 hB9).2)
              all_goals (
                go_wp2
                go_roundw
                case rel => exact ⟨k + 1, g9, by omega, by go_num, by rw [HN2.out, ← HS'.out]; exact h9, by omega, hB9⟩
                case measure => simp [intOf]; omega)
            · obtain rfl : m = 0 := by omega
              go_wp2_with fail
              refine HD.out.mono ?_
              rintro e w8 ⟨rfl, rfl⟩
              have HRI2 := Lib.hid (HRI.out (by simp))
              clear HD HRB HRI
              go_wp2
              go_region_with (go_at_call 17; refine (HRI2.out _ HX.out.drew).mono ?_; rintro e w9 ⟨rfl, g9, h9, hg9, hk9⟩; have hB9 := hbel.drew.trans (hk9.below (show w.heap.size ≤ w8.drew.heap.size from hbs) hxw hxw); have f0 := (HC.out w9 hB9).1)
              all_goals (
                go_wp2
                go_roundw
                case rel => exact ⟨k + 1, g9, by omega, by go_num, by rw [HN2.out, ← HS'.out]; exact h9, by omega, hB9⟩
                case measure => simp [intOf]; omega)
          · obtain rfl : k = R := by omega
            rw [Nat.sub_self] at hbx
            have HD := Lib.hid (rdone_any x gr (seg N l k 0) false)
            have HA := Lib.hid (answers_any wr)
            go_wp2_with fail
            refine HA.out.mono ?_
            rintro e w7 ⟨rfl, hb7⟩
            have hbx7 := hbx.below hb7 (Nat.le_refl _)
            go_wp2_with fail
            refine (HD.out w7 hbx7).mono ?_
            rintro e w8 ⟨rfl, rfl⟩
            have hdn : dn (seg N l k 0) false = true := rfl
            rw [hdn]
            go_wp2
            go_ret
            exact ⟨rfl, hbel.trans (hb7.mono hbs)⟩

theorem contract (H : Type) (enc : TypeId × Value → H) (W : World) (base : Nat) (args : Array Value) (ds gs : List (DataW H)) (before : List MemPlace)
    (hval : ∀ (j : Nat) t v, Try.f3.params[j]? = some t → args[j]? = some v → Value.okWide Try.prog W .any base t v)
    (hW : DataW.Whole enc Try.prog Try.f3.params.toList Rows.wordWritesSpec.vars false W args.toList ds gs before) (hk : Rows.uptoSmall H (ds ++ gs) = true) :
    Calls Try.prog 3 args W fun e W' => ∃ v, e = .returned v ∧ Rows.wordWritesSpec.post enc Try.prog Try.f3 false true false false W args v W' := by
  have hW' := hW
  obtain ⟨p, q, hA0, hV, rfl, _hfz, _hnd⟩ := hW
  have hA : DataW.TrodAll enc Try.prog W 0 (fun _ => true) true Try.f3.params.toList args.toList ds p := hA0
  rw [Try.params3] at hA hval
  obtain ⟨v0, vs0, d0, ds0, p0, q0, hargs, rfl, rfl, h0, r0⟩ := trodAll_cons hA
  obtain ⟨rfl, rfl, rfl⟩ := trodAll_nil r0
  obtain rfl : args = #[v0] := by cases args; simp_all
  obtain ⟨rfl, rfl⟩ := trodVars_none hV
  simp only [List.append_nil] at hk
  have k0 := h0
  have lt0 : ∀ x ∈ p0, x.block < W.heap.size := by obtain ⟨m, hm⟩ := k0; exact DataW.trod_lt m _ _ _ hm
  obtain ⟨A0, c0, R0, N0, Q0, C0, l0, rfl, w0, sz0⟩ := open_ops Try.underlying22 Try.underlying30 (by kernel_rfl) rfl rfl (by kernel_rfl) (by kernel_rfl) Try.underlying3 Try.underlying26 Try.underlying5 (by kernel_rfl) (hval 0 22 v0 rfl rfl) h0
  clear hA0
  refine (walk A0 c0 R0 N0 Q0 C0 l0 W w0 (bulks.ops_small (bulks.part hk (j := 0) rfl) sz0)).mono fun e W' ⟨he, bel⟩ => ?_
  subst he
  exact ⟨_, rfl, _, _, _, [], _, [], hW', trodAll_mk1 (shut_bool Try.underlying4 _), (trodAll_cons_mk (Below.trod laidOut (by kernel_rfl) (of_decide_eq_true (by kernel_rfl)) k0 bel lt0) trodAll_mk0), rfl, bel.frame _, fun h => by cases h⟩

set_option maxRecDepth 100000 in
theorem lifted (os : Os) (started : os.Started) (H : Type) (enc : TypeId × Value → H) (F : Stop.Interp) :
    ReturnsInHanded {} Try.checked os 3 .any ((Rows.OpenSpec.upto Rows.wordWritesSpec).pre6 enc Try.prog Try.f3 Rows.wordWritesUptoRow.domain false) (((Rows.OpenSpec.upto Rows.wordWritesSpec).at F).post enc Try.prog Try.f3 false true false false) := by
  refine returnsInHanded_of_cond (C := Try.checked) (s := Rows.OpenSpec.upto Rows.wordWritesSpec) (k := Rows.uptoSmall) rfl own started (by kernel_rfl) Try.func3
    (OpenSpec.witness (enc := enc) (C := Try.checked) (s := Rows.OpenSpec.upto Rows.wordWritesSpec) (k := Rows.uptoSmall) rfl false ⟨#[], #[.slice none 0 0], []⟩ 8 (by kernel_rfl) (by kernel_rfl) (by kernel_rfl)
      (x := ([.nil], [], [])) (by kernel_rfl) rfl (by kernel_rfl)) ?_
  intro W base args ds gs before hval hW _ hk _
  exact contract H enc W base args ds gs before hval hW hk

theorem over : Rows.wordWritesUptoRow.holds Try.pinned (Rows.OpenSpec.upto Rows.wordWritesSpec) :=
  OpenClaim.holds_of_cond 3 Try.f3 rfl rfl rfl rfl rfl rfl rfl ⟨rfl, rfl, rfl, rfl, rfl⟩ rfl rfl rfl rfl rfl (by kernel_rfl) Try.func3 (by kernel_rfl)
    (of_decide_eq_true (by kernel_rfl)) (by unfold Func.isWrapper; first | (rw [if_pos (by decide +kernel)]; kernel_rfl) | (rw [if_neg (by decide +kernel)]; exact ⟨rfl, rfl⟩))
    (fun os started H enc _ F => lifted os started H enc F)

end Go.Proofs.Ytpkdlblncgldmaa.wordWrites
namespace Go.Proofs.Ytpkdlblncgldmaa
/-- The statement. -/
theorem wordWrites_holds : Rows.WordWritesUptoSaid := wordWrites.over
#print axioms wordWrites_holds
end Go.Proofs.Ytpkdlblncgldmaa

