/- For every input SlotCuts returns true, and every argument reads behind the call as it did before: no condition. -/
import Derived.Test.YtijbpafmokbnaaaRows
import Derived.ProofKit
import Derived.OpenShut
import Derived.SizedLaws
import Derived.ChangeOld
import Derived.Carry
import Derived.Test.YtijbpafmokbnaaaLawb
import Derived.Test.YtijbpafmokbnaaaSkl
import Derived.Test.YtijbpafmokbnaaaGty
import Derived.BigQuiet
namespace Go.Proofs.Ytijbpafmokbnaaa.slotCuts
open Go.ChangeShapes Go.WideShapes Go.ChangeAt Go.RowKit Go.Shelf Gw Pol Go.BigFrame

theorem own : ownKnob Try.prog.godebug = none := by kernel_rfl
theorem laidOut : laidOutB Try.prog = true := by kernel_rfl
set_option maxRecDepth 100000 in
set_option maxHeartbeats 4000000 in
theorem walk_nat (a0 : Int) (A1 : Option Addr) (c1 : Nat) (l1 : List Nat) (A2 : Option Addr) (c2 : Nat) (l2 : List Nat) (A3 : Option Addr) (c3 : Nat) (l3 : List Nat) (f : Nat) (hf : f < 256) (w : World) (w1 : In w w.heap.size A1 c1 l1) (s1 : c1 ≤ 140737488351232) (w2 : In w w.heap.size A2 c2 l2) (s2 : c2 ≤ 140737488351232) (w3 : In w w.heap.size A3 c3 l3) (s3 : c3 ≤ 140737488351232) :
    Calls Try.prog 5 #[.int .i64 a0, .slice A1 l1.length c1, .slice A2 l2.length c2, .slice A3 l3.length c3, .int .u8 (f : Int)] w fun e w' => e = .returned (.bool true) ∧ Below w.heap.size w w' := by
  obtain ⟨r, hr⟩ : ∃ r, r = min a0.toNat 512 := ⟨_, rfl⟩
  obtain ⟨n1, hn1⟩ : ∃ n1, n1 = l1.length := ⟨_, rfl⟩
  obtain ⟨n2, hn2⟩ : ∃ n2, n2 = l2.length := ⟨_, rfl⟩
  obtain ⟨n3, hn3⟩ : ∃ n3, n3 = l3.length := ⟨_, rfl⟩
  obtain ⟨σ1, hσ1⟩ : ∃ σ, σ = str l1 := ⟨_, rfl⟩
  obtain ⟨σ2, hσ2⟩ : ∃ σ, σ = str l2 := ⟨_, rfl⟩
  obtain ⟨σ3, hσ3⟩ : ∃ σ, σ = str l3 := ⟨_, rfl⟩
  rw [← hn1, ← hn2, ← hn3]
  have HR5 := Lib.hid (show r ≤ 512 by rw [hr]; exact Nat.min_le_right _ _)
  have HNW := Lib.hid (sq_new a0 r hr w)
  have HI1 := Lib.hid w1
  have HI2 := Lib.hid w2
  have HI3 := Lib.hid w3
  have HC1 := Lib.hid s1
  have HC2 := Lib.hid s2
  have HC3 := Lib.hid s3
  have HN1 := Lib.hid hn1
  have HN2 := Lib.hid hn2
  have HN3 := Lib.hid hn3
  have HS1 := Lib.hid hσ1
  have HS2 := Lib.hid hσ2
  have HS3 := Lib.hid hσ3
  have hwf : IntKind.i64.wrap (f : Int) = (f : Int) := by rw [IntKind.wrap_i64]; omega
  clear hr hn1 hn2 hn3 hσ1 hσ2 hσ3 w1 w2 w3 s1 s2 s3
  go_enter Try.func5, Try.ntmps5
  go_wp2_with fail
  refine HNW.out.mono ?_
  rintro e w1 ⟨z, p, g, rfl, hq1, hz, hp, hg, hb1⟩
  have HZ := Lib.hid hz
  have HP := Lib.hid hp
  have HG := Lib.hid hg
  have HQ1 := Lib.hid hq1
  have HB1 := Lib.hid hb1
  clear hz hp hg hq1 hb1 HNW
  by_cases ht1 : r < tk n1
  · have HS := Lib.hid (sq_big z p g r [] ⟨-1, false, 0⟩ A1 n1 c1 w1 HQ1.out ht1 (by have := HC1.out; have := HI1.out.cap; have := HN1.out; omega))
    go_wp2_with fail
    refine HS.out.mono ?_
    rintro e w2 ⟨rfl, hb2⟩
    have HQ2 := Lib.hid (HQ1.out.below hb2 (Nat.le_refl _))
    have HB2 := Lib.hid (HB1.out.trans (hb2.mono HB1.out.size))
    clear hb2 HS HQ1 HB1
    go_wp2_with fail
    refine (answers_any w2).mono ?_
    rintro e w3 ⟨rfl, hb3⟩
    have HL := Lib.hid (sq_load z p g r [] ⟨-1, false, 0⟩ w3 (HQ2.out.below hb3 (Nat.le_refl _)))
    have HB3 := Lib.hid (HB2.out.trans (hb3.mono HB2.out.size))
    clear hb3 HQ2 HB2
    go_wp2_with fail
    refine HL.out.mono ?_
    rintro e w4 ⟨A4, c4, rfl, -, hb4⟩
    have HB4 := Lib.hid (HB3.out.trans (hb4.mono HB3.out.size))
    clear hb4 HL HB3
    go_wp2
    go_ret
    exact ⟨rfl, HB4.out⟩
  · have hI1 : In w1 w.heap.size A1 c1 l1 := HI1.out.below HB1.out
    have hkl : tk l1.length ≤ 512 := by have := HR5.out; have := HN1.out; rw [← HN1.out]; omega
    have HS := Lib.hid (sq_free z p g r w.heap.size 0 _ [] l1 A1 n1 c1 w1 HQ1.out hI1 (fun o hne => ⟨in_no hI1 HZ.out hne o, in_no hI1 HP.out hne o, in_no hI1 HG.out hne o⟩) HN1.out (by omega) (by omega) rfl)
    obtain ⟨u1, hu1⟩ : ∃ u1, u1 = 0 + (tk l1.length + 1) + tk ([] : List Nat).length := ⟨_, rfl⟩
    rw [← hu1] at HS
    have HU1 := Lib.hid (show u1 ≤ 1024 by rw [hu1]; show 0 + (tk l1.length + 1) + 0 ≤ _; omega)
    clear hI1 hkl hu1 ht1
    go_wp2_with fail
    refine HS.out.mono ?_
    rintro e w2 ⟨rfl, hq2, hk2⟩
    have HB2 := Lib.hid (HB1.out.trans (hk2.below HB1.out.size HZ.out HP.out HG.out))
    have HF := Lib.hid (sq_fuse z p g r l1 ⟨-1, false, u1⟩ (f : Int) w2 hq2 (by omega))
    clear hq2 hk2 HS HQ1 HB1
    go_wp2_with fail
    refine HF.out.mono ?_
    rintro e w3 ⟨rfl, hq3, hk3⟩
    have HB3 := Lib.hid (HB2.out.trans (hk3.below HB2.out.size HZ.out HP.out HG.out))
    have hI2 : In w3 w.heap.size A2 c2 l2 := HI2.out.below HB3.out
    have HS := Lib.hid (sq_cut z p g r w.heap.size l1 l2 _ A2 n2 c2 w3 hq3 hI2 (fun o hne => ⟨in_no hI2 HZ.out hne o, in_no hI2 HP.out hne o, in_no hI2 HG.out hne o⟩) HN2.out (by have := HC2.out; have := HI2.out.cap; have := HN2.out; omega) (show u1 ≤ 8192 by have := HU1.out; omega))
    clear hq3 hk3 hI2 HF HB2
    go_wp2_with fail
    refine HS.out.mono ?_
    rintro e w4 ⟨ev, s4, Kp, rfl, hq4, hor, hu4, hk4⟩
    have HOR := Lib.hid hor
    have HU4 := Lib.hid hu4
    have HB4 := Lib.hid (HB3.out.trans (hk4.below HB3.out.size HZ.out HP.out HG.out))
    have HQ4 := Lib.hid hq4
    have HL := Lib.hid (sq_load z p g r Kp s4 w4 hq4)
    clear hor hu4 hk4 hq4 HS HB3
    go_wp2_with fail
    refine HL.out.mono ?_
    rintro e w5 ⟨A5, c5, rfl, hi5, hb5⟩
    obtain ⟨nk, hnk⟩ : ∃ nk, nk = Kp.length := ⟨_, rfl⟩
    obtain ⟨σ, hσ⟩ : ∃ σ, σ = str Kp := ⟨_, rfl⟩
    rw [← hnk]
    have hcv := conv_load hi5 hnk
    rw [← hσ] at hcv
    have hq5 : Sq w5 z p g r s4 Kp := HQ4.out.below hb5 (Nat.le_refl _)
    have HB5 := Lib.hid (HB4.out.trans (hb5.mono HB4.out.size))
    have HST := Lib.hid (sq_start z p g r Kp s4 w5 hq5 (by have := HU4.out; omega))
    have HNK := Lib.hid hnk
    have HSG := Lib.hid hσ
    clear hi5 hb5 hnk hσ hq5 HL HQ4 HB4
    go_wp2_with fail
    refine HST.out.mono ?_
    rintro e w6 ⟨u6, rfl, hq6, hu6, hk6⟩
    have HB6 := Lib.hid (HB5.out.trans (hk6.below HB5.out.size HZ.out HP.out HG.out))
    have HU8 := Lib.hid (show u6 ≤ 32768 by have := HU4.out; have := HR5.out; omega)
    have HQ6 := Lib.hid hq6
    have HL6 := Lib.hid (sq_load z p g r Kp ⟨-1, false, u6⟩ w6 hq6)
    have hcv1 := conv_sl (P := Try.prog) (HI1.out.below HB6.out).sl Try.underlying28 Try.underlying5 Try.underlying9 c1
    rw [← HN1.out, ← HS1.out] at hcv1
    have hcv2 := conv_sl (P := Try.prog) (HI2.out.below HB6.out).sl Try.underlying28 Try.underlying5 Try.underlying9 c2
    rw [← HN2.out, ← HS2.out] at hcv2
    clear hq6 hu6 hk6 hcv HST HB5
    rcases HOR.out with ⟨hkp, hev⟩ | hkp
    · obtain rfl : σ = σ1 := by rw [HSG.out, HS1.out, hkp]
      have hev0 : (ev == 0) = false := by simpa using hev
      clear hkp hev
      go_wp2_with fail
      refine HL6.out.mono ?_
      rintro e w7 ⟨A7, c7, rfl, hi7, hb7⟩
      obtain ⟨n7, hn7⟩ : ∃ n7, n7 = Kp.length := ⟨_, rfl⟩
      rw [← hn7]
      have hcv7 := conv_load hi7 hn7
      rw [← HSG.out] at hcv7
      have hq7 : Sq w7 z p g r ⟨-1, false, u6⟩ Kp := HQ6.out.below hb7 (Nat.le_refl _)
      have HB7 := Lib.hid (HB6.out.trans (hb7.mono HB6.out.size))
      have HQ7 := Lib.hid hq7
      have HCL7 := Lib.hid (sq_clean z p g r Kp ⟨-1, false, u6⟩ w7 hq7 rfl)
      clear hi7 hb7 hn7 hq7 HL6 HQ6 HB6
      go_wp2_with fail
      refine HCL7.out.mono ?_
      rintro e w8 ⟨rfl, hb8⟩
      have hq8 : Sq w8 z p g r ⟨-1, false, u6⟩ Kp := HQ7.out.below hb8 (Nat.le_refl _)
      have HQ8 := Lib.hid hq8
      have HB8 := Lib.hid (HB7.out.trans (hb8.mono HB7.out.size))
      have HD8 := Lib.hid (sq_down z p g r Kp ⟨-1, false, u6⟩ w8 hq8)
      clear hb8 hq8 hcv7 HCL7 HQ7 HB7
      go_wp2_with fail
      refine HD8.out.mono ?_
      rintro e w8b ⟨rfl, hw8⟩
      subst hw8
      by_cases ht3 : r < tk n3
      · have HS9 := Lib.hid (sq_big z p g r Kp ⟨-1, false, u6⟩ A3 n3 c3 w8b HQ8.out ht3 (by have := HC3.out; have := HI3.out.cap; have := HN3.out; omega))
        go_wp2_with fail
        refine HS9.out.mono ?_
        rintro e w9 ⟨rfl, hb9⟩
        have hq9 : Sq w9 z p g r ⟨-1, false, u6⟩ Kp := HQ8.out.below hb9 (Nat.le_refl _)
        have HB9 := Lib.hid (HB8.out.trans (hb9.mono HB8.out.size))
        have HLD := Lib.hid (show ∀ w5, Below w9.heap.size w9 w5 → Calls Try.prog 16 #[.pointer (some ⟨z, 0, none⟩)] w5 fun e w' => ∃ A c, e = .returned (.slice A nk c) ∧ In w' w'.heap.size A c Kp ∧ Below w5.heap.size w5 w' from fun w5 hg => by
          rw [HNK.out]; exact sq_load z p g r _ _ w5 (hq9.below hg (Nat.le_refl _)))
        have HCL := Lib.hid (show ∀ w5, Below w9.heap.size w9 w5 → Calls Try.prog 20 #[.pointer (some ⟨z, 0, none⟩)] w5 fun e w' => e = .returned (.bool true) ∧ Below w5.heap.size w5 w' from fun w5 hg => sq_clean z p g r _ _ w5 (hq9.below hg (Nat.le_refl _)) rfl)
        clear hb9 hq9 HS9 HQ8 HB8
        go_wp2
        rename_i K hK
        refine Gt.regionA [Gt.Is (.bool true), Gt.Is (.bool true), Gt.Is (.int .i64 7), Gt.Is (.bool true), Gt.Is (.bool true), Gt.Is (.pointer (some ⟨z, 0, none⟩)), LdIs nk Kp, Gt.Is (.string σ), Gt.Is (.string σ), Gt.Is (.bool true), Gt.Is (.bool true), Gt.Is (.bool true), Gt.Is undef, Gt.Is undef, Gt.Is undef, Gt.Is undef, Gt.Is undef, Gt.Is undef, Gt.Is undef, Gt.Is undef, Gt.Is undef, Gt.Is undef, Gt.Is (.bool true), Gt.Is (.bool true), Gt.Is (.bool true), Gt.Is (.pointer (some ⟨z, 0, none⟩)), Gt.Is (.bool true), Gt.Is (.bool true), Gt.Is (.bool true)] 107
          [⟨[], [], none⟩, ⟨[(0, 79)], [], none⟩, ⟨[(1, 80)], [14], some (80, true)⟩, ⟨[(1, 80), (2, 81)], [], some (80, true)⟩, ⟨[(1, 80), (3, 82)], [], some (80, true)⟩, ⟨[(4, 83)], [11], some (83, true)⟩, ⟨[(4, 83), (5, 84)], [], some (83, true)⟩, ⟨[(4, 83), (6, 85)], [], some (83, true)⟩, ⟨[(4, 83)], [13], some (83, true)⟩, ⟨[(4, 83), (7, 86), (8, 87)], [], some (83, true)⟩, ⟨[(1, 80), (4, 83), (9, 88)], [], some (80, true)⟩, ⟨[(1, 80), (10, 89)], [], some (80, true)⟩, ⟨[(11, 90)], [14], some (90, false)⟩, ⟨[(11, 90), (12, 91)], [], some (90, false)⟩, ⟨[(11, 90), (13, 92)], [], some (90, false)⟩, ⟨[(14, 93)], [11], some (93, true)⟩, ⟨[(14, 93), (15, 94)], [], some (93, true)⟩, ⟨[(14, 93), (16, 95)], [], some (93, true)⟩, ⟨[(14, 93)], [3], some (93, true)⟩, ⟨[(14, 93), (18, 97)], [], some (93, true)⟩, ⟨[(14, 93), (17, 96), (19, 98)], [], some (93, true)⟩, ⟨[(11, 90), (14, 93), (20, 99)], [], some (90, false)⟩, ⟨[(1, 80), (11, 90), (21, 100)], [], some (80, true)⟩, ⟨[(1, 80), (22, 101)], [], none⟩, ⟨[(23, 102)], [], none⟩, ⟨[(24, 103)], [11], some (103, true)⟩, ⟨[(24, 103), (25, 104)], [], some (103, true)⟩, ⟨[(24, 103), (26, 105)], [], none⟩, ⟨[(27, 106)], [], none⟩]
          [(0, 79), (1, 80), (2, 81), (3, 82), (4, 83), (5, 84), (6, 85), (7, 86), (8, 87), (9, 88), (10, 89), (11, 90), (12, 91), (13, 92), (14, 93), (15, 94), (16, 95), (17, 96), (18, 97), (19, 98), (20, 99), (21, 100), (22, 101), (23, 102), (24, 103), (25, 104), (26, 105), (27, 106), (28, 10)] (by kernel_rfl) (by kernel_rfl) (by kernel_rfl) (by kernel_rfl) ?_ ?_ ?_
        · simp only [Gt.Monos]
          repeat' apply And.intro
          all_goals (first | exact trivial | exact Gt.Is.mono _ | exact LdIs.mono _ _)
        · simp only [Gt.Obs]
          repeat' apply And.intro
          all_goals try exact trivial
          all_goals (
            intro a w5 hg
            have hg' : Below w9.heap.size w9 w5 := hg
            simp only [Gt.Pre, Gt.Kept, Gt.Guarded, Gt.tys, List.getD_cons_zero, List.getD_cons_succ, Gt.Is, Nat.zero_add, Nat.reduceAdd]
            intros
            try (refine ⟨fun _ => ?_, fun hne => absurd (by assumption) hne⟩))
          all_goals (first
            | exact Gt.ok_move rfl (by assumption)
            | exact Gt.ok_assign rfl (by assumption)
            | exact Gt.ok_pick rfl (by assumption) (by rw [if_pos rfl]; assumption)
            | (exact ⟨fun h => absurd (show Value.bool false = Value.bool true from h.symm.trans (by assumption)) (by intro h; cases h), fun _ => trivial⟩)
            | (exact ⟨fun h => absurd (show Value.bool true = Value.bool false from h.symm.trans (by assumption)) (by intro h; cases h), fun _ => trivial⟩)
            | (exact ⟨fun h => absurd (show Value.bool true = undef from h.symm.trans (by assumption)) (by intro h; simp [undef] at h), fun _ => trivial⟩)
            | (exact Gt.ok_call (f := 10) rfl #[] (by kernel_rfl) (by simp) ((answers_any _).mono fun e w6 h => ⟨_, h.1, h.2, rfl⟩))
            | (exact Gt.ok_call (f := 16) rfl #[.pointer (some ⟨z, 0, none⟩)] (by kernel_rfl) (by simp [*]) ((HLD.out w5 hg').mono fun e w6 h => by obtain ⟨A6, c6, h1, h2, h3⟩ := h; exact ⟨_, h1, h3, A6, c6, rfl, h2⟩))
            | (exact Gt.ok_call (f := 20) rfl #[.pointer (some ⟨z, 0, none⟩)] (by kernel_rfl) (by simp [*]) ((HCL.out w5 hg').mono fun e w6 h => ⟨_, h.1, h.2, rfl⟩))
            | (rename_i h6 _
               obtain ⟨A6, c6, e6, hI6⟩ := h6
               have k5 := conv_load hI6 HNK.out
               rw [← HSG.out] at k5
               exact Gt.ok_convert rfl e6 k5 rfl)
            | (refine Gt.ok_run ?_ rfl
               simp only [execOp, *]
               go_simp
               done))
        · intro a w5 hg
          have hg' : Below w9.heap.size w9 w5 := hg
          simp only [Gt.Pre, Gt.tys, List.getD_cons_zero, List.getD_cons_succ, Gt.Is]
          intro h0 h1 h2 h3 h4 h5 h6 h7 h8 h9 h10 h11 h12 h13 h14 h15 h16 h17 h18 h19 h20 h21 h22 h23 h24 h25 h26 h27 h28
          obtain ⟨A6, c6, e6, _⟩ := h6
          show K _ _
          refine hK _ _ ?_
          simp only [Gt.puts, List.foldl_cons, List.foldl_nil, h0, h1, h2, h3, h4, h5, h7, h8, h9, h10, h11, h12, h13, h14, h15, h16, h17, h18, h19, h20, h21, h22, h23, h24, h25, h26, h27, h28, e6]
          simp only [Act.put, List.setIfInBounds_toArray, List.set_cons_zero, List.set_cons_succ]
          go_wp2
          go_ret
          exact ⟨rfl, HB9.out.trans (hg'.mono HB9.out.size)⟩
      · have hI8 : In w8b w.heap.size A3 c3 l3 := HI3.out.below HB8.out
        have HS9 := Lib.hid (sq_free z p g r w.heap.size u6 _ Kp l3 A3 n3 c3 w8b HQ8.out hI8 (fun o hne => ⟨in_no hI8 HZ.out hne o, in_no hI8 HP.out hne o, in_no hI8 HG.out hne o⟩) HN3.out (by omega) (by have := HU8.out; omega) rfl)
        clear hI8
        go_wp2_with fail
        refine HS9.out.mono ?_
        rintro e w9 ⟨rfl, hq9, hk9⟩
        have HB9 := Lib.hid (HB8.out.trans (hk9.below HB8.out.size HZ.out HP.out HG.out))
        have HLD := Lib.hid (show ∀ w5, Below w9.heap.size w9 w5 → Calls Try.prog 16 #[.pointer (some ⟨z, 0, none⟩)] w5 fun e w' => ∃ A c, e = .returned (.slice A n3 c) ∧ In w' w'.heap.size A c l3 ∧ Below w5.heap.size w5 w' from fun w5 hg => by
          rw [HN3.out]; exact sq_load z p g r _ _ w5 (hq9.below hg (Nat.le_refl _)))
        have HCL := Lib.hid (show ∀ w5, Below w9.heap.size w9 w5 → Calls Try.prog 20 #[.pointer (some ⟨z, 0, none⟩)] w5 fun e w' => e = .returned (.bool true) ∧ Below w5.heap.size w5 w' from fun w5 hg => sq_clean z p g r _ _ w5 (hq9.below hg (Nat.le_refl _)) rfl)
        have HCV := Lib.hid (show ∀ w5, Below w9.heap.size w9 w5 → (convert 28 9 (.slice A3 n3 c3)).run Try.prog w5 = .ok (.string σ3) w5 from fun w5 hg => by
          have h2 := conv_sl (P := Try.prog) (HI3.out.below (HB9.out.trans (hg.mono HB9.out.size))).sl Try.underlying28 Try.underlying5 Try.underlying9 c3
          rw [← HN3.out, ← HS3.out] at h2
          exact h2)
        clear hk9 hq9 HS9 HQ8 HB8
        go_wp2
        rename_i K hK
        refine Gt.regionA [Gt.Is (.bool true), Gt.Is (.bool true), Gt.Is (.int .i64 0), Gt.Is (.bool false), Gt.Is (.bool false), Gt.Is undef, Gt.Is undef, Gt.Is undef, Gt.Is undef, Gt.Is undef, Gt.Is (.bool false), Gt.Is (.bool false), Gt.Is (.int .i64 0), Gt.Is (.bool true), Gt.Is (.bool true), Gt.Is (.pointer (some ⟨z, 0, none⟩)), LdIs n3 l3, Gt.Is (.string σ3), Gt.Is (.slice A3 n3 c3), Gt.Is (.string σ3), Gt.Is (.bool true), Gt.Is (.bool true), Gt.Is (.bool true), Gt.Is (.bool true), Gt.Is (.bool true), Gt.Is (.pointer (some ⟨z, 0, none⟩)), Gt.Is (.bool true), Gt.Is (.bool true), Gt.Is (.bool true)] 107
          [⟨[], [], none⟩, ⟨[(0, 79)], [], none⟩, ⟨[(1, 80)], [14], some (80, true)⟩, ⟨[(1, 80), (2, 81)], [], some (80, true)⟩, ⟨[(1, 80), (3, 82)], [], some (80, true)⟩, ⟨[(4, 83)], [11], some (83, true)⟩, ⟨[(4, 83), (5, 84)], [], some (83, true)⟩, ⟨[(4, 83), (6, 85)], [], some (83, true)⟩, ⟨[(4, 83)], [13], some (83, true)⟩, ⟨[(4, 83), (7, 86), (8, 87)], [], some (83, true)⟩, ⟨[(1, 80), (4, 83), (9, 88)], [], some (80, true)⟩, ⟨[(1, 80), (10, 89)], [], some (80, true)⟩, ⟨[(11, 90)], [14], some (90, false)⟩, ⟨[(11, 90), (12, 91)], [], some (90, false)⟩, ⟨[(11, 90), (13, 92)], [], some (90, false)⟩, ⟨[(14, 93)], [11], some (93, true)⟩, ⟨[(14, 93), (15, 94)], [], some (93, true)⟩, ⟨[(14, 93), (16, 95)], [], some (93, true)⟩, ⟨[(14, 93)], [3], some (93, true)⟩, ⟨[(14, 93), (18, 97)], [], some (93, true)⟩, ⟨[(14, 93), (17, 96), (19, 98)], [], some (93, true)⟩, ⟨[(11, 90), (14, 93), (20, 99)], [], some (90, false)⟩, ⟨[(1, 80), (11, 90), (21, 100)], [], some (80, true)⟩, ⟨[(1, 80), (22, 101)], [], none⟩, ⟨[(23, 102)], [], none⟩, ⟨[(24, 103)], [11], some (103, true)⟩, ⟨[(24, 103), (25, 104)], [], some (103, true)⟩, ⟨[(24, 103), (26, 105)], [], none⟩, ⟨[(27, 106)], [], none⟩]
          [(0, 79), (1, 80), (2, 81), (3, 82), (4, 83), (5, 84), (6, 85), (7, 86), (8, 87), (9, 88), (10, 89), (11, 90), (12, 91), (13, 92), (14, 93), (15, 94), (16, 95), (17, 96), (18, 97), (19, 98), (20, 99), (21, 100), (22, 101), (23, 102), (24, 103), (25, 104), (26, 105), (27, 106), (28, 10)] (by kernel_rfl) (by kernel_rfl) (by kernel_rfl) (by kernel_rfl) ?_ ?_ ?_
        · simp only [Gt.Monos]
          repeat' apply And.intro
          all_goals (first | exact trivial | exact Gt.Is.mono _ | exact LdIs.mono _ _)
        · simp only [Gt.Obs]
          repeat' apply And.intro
          all_goals try exact trivial
          all_goals (
            intro a w5 hg
            have hg' : Below w9.heap.size w9 w5 := hg
            simp only [Gt.Pre, Gt.Kept, Gt.Guarded, Gt.tys, List.getD_cons_zero, List.getD_cons_succ, Gt.Is, Nat.zero_add, Nat.reduceAdd]
            intros
            try (refine ⟨fun _ => ?_, fun hne => absurd (by assumption) hne⟩))
          all_goals (first
            | exact Gt.ok_move rfl (by assumption)
            | exact Gt.ok_assign rfl (by assumption)
            | exact Gt.ok_pick rfl (by assumption) (by rw [if_pos rfl]; assumption)
            | (exact ⟨fun h => absurd (show Value.bool false = Value.bool true from h.symm.trans (by assumption)) (by intro h; cases h), fun _ => trivial⟩)
            | (exact ⟨fun h => absurd (show Value.bool true = Value.bool false from h.symm.trans (by assumption)) (by intro h; cases h), fun _ => trivial⟩)
            | (exact ⟨fun h => absurd (show Value.bool true = undef from h.symm.trans (by assumption)) (by intro h; simp [undef] at h), fun _ => trivial⟩)
            | (exact Gt.ok_call (f := 10) rfl #[] (by kernel_rfl) (by simp) ((answers_any _).mono fun e w6 h => ⟨_, h.1, h.2, rfl⟩))
            | (exact Gt.ok_call (f := 16) rfl #[.pointer (some ⟨z, 0, none⟩)] (by kernel_rfl) (by simp [*]) ((HLD.out w5 hg').mono fun e w6 h => by obtain ⟨A6, c6, h1, h2, h3⟩ := h; exact ⟨_, h1, h3, A6, c6, rfl, h2⟩))
            | (exact Gt.ok_call (f := 20) rfl #[.pointer (some ⟨z, 0, none⟩)] (by kernel_rfl) (by simp [*]) ((HCL.out w5 hg').mono fun e w6 h => ⟨_, h.1, h.2, rfl⟩))
            | (rename_i h6 _
               obtain ⟨A6, c6, e6, hI6⟩ := h6
               have k5 := conv_load hI6 HN3.out
               rw [← HS3.out] at k5
               exact Gt.ok_convert rfl e6 k5 rfl)
            | (exact Gt.ok_convert rfl (by assumption) (HCV.out w5 hg') rfl)
            | (refine Gt.ok_run ?_ rfl
               simp only [execOp, *]
               go_simp
               done))
        · intro a w5 hg
          have hg' : Below w9.heap.size w9 w5 := hg
          simp only [Gt.Pre, Gt.tys, List.getD_cons_zero, List.getD_cons_succ, Gt.Is]
          intro h0 h1 h2 h3 h4 h5 h6 h7 h8 h9 h10 h11 h12 h13 h14 h15 h16 h17 h18 h19 h20 h21 h22 h23 h24 h25 h26 h27 h28
          obtain ⟨A6, c6, e6, _⟩ := h16
          show K _ _
          refine hK _ _ ?_
          simp only [Gt.puts, List.foldl_cons, List.foldl_nil, h0, h1, h2, h3, h4, h5, h6, h7, h8, h9, h10, h11, h12, h13, h14, h15, h17, h18, h19, h20, h21, h22, h23, h24, h25, h26, h27, h28, e6]
          simp only [Act.put, List.setIfInBounds_toArray, List.set_cons_zero, List.set_cons_succ]
          go_wp2
          go_ret
          exact ⟨rfl, HB9.out.trans (hg'.mono HB9.out.size)⟩
    · obtain rfl : σ = σ2 := by rw [HSG.out, HS2.out, hkp]
      clear hkp
      cases hc : (σ.toList == σ1.toList) with
      | true =>
        by_cases hev : ev = 0
        · subst hev
          go_wp2_with fail
          refine HL6.out.mono ?_
          rintro e w7 ⟨A7, c7, rfl, hi7, hb7⟩
          obtain ⟨n7, hn7⟩ : ∃ n7, n7 = Kp.length := ⟨_, rfl⟩
          rw [← hn7]
          have hcv7 := conv_load hi7 hn7
          rw [← HSG.out] at hcv7
          have hq7 : Sq w7 z p g r ⟨-1, false, u6⟩ Kp := HQ6.out.below hb7 (Nat.le_refl _)
          have HB7 := Lib.hid (HB6.out.trans (hb7.mono HB6.out.size))
          have HQ7 := Lib.hid hq7
          have HCL7 := Lib.hid (sq_clean z p g r Kp ⟨-1, false, u6⟩ w7 hq7 rfl)
          clear hi7 hb7 hn7 hq7 HL6 HQ6 HB6
          go_wp2_with fail
          refine HCL7.out.mono ?_
          rintro e w8 ⟨rfl, hb8⟩
          have hq8 : Sq w8 z p g r ⟨-1, false, u6⟩ Kp := HQ7.out.below hb8 (Nat.le_refl _)
          have HQ8 := Lib.hid hq8
          have HB8 := Lib.hid (HB7.out.trans (hb8.mono HB7.out.size))
          have HD8 := Lib.hid (sq_down z p g r Kp ⟨-1, false, u6⟩ w8 hq8)
          clear hb8 hq8 hcv7 HCL7 HQ7 HB7
          go_wp2_with fail
          refine HD8.out.mono ?_
          rintro e w8b ⟨rfl, hw8⟩
          subst hw8
          by_cases ht3 : r < tk n3
          · have HS9 := Lib.hid (sq_big z p g r Kp ⟨-1, false, u6⟩ A3 n3 c3 w8b HQ8.out ht3 (by have := HC3.out; have := HI3.out.cap; have := HN3.out; omega))
            go_wp2_with fail
            refine HS9.out.mono ?_
            rintro e w9 ⟨rfl, hb9⟩
            have hq9 : Sq w9 z p g r ⟨-1, false, u6⟩ Kp := HQ8.out.below hb9 (Nat.le_refl _)
            have HB9 := Lib.hid (HB8.out.trans (hb9.mono HB8.out.size))
            have HLD := Lib.hid (show ∀ w5, Below w9.heap.size w9 w5 → Calls Try.prog 16 #[.pointer (some ⟨z, 0, none⟩)] w5 fun e w' => ∃ A c, e = .returned (.slice A nk c) ∧ In w' w'.heap.size A c Kp ∧ Below w5.heap.size w5 w' from fun w5 hg => by
              rw [HNK.out]; exact sq_load z p g r _ _ w5 (hq9.below hg (Nat.le_refl _)))
            have HCL := Lib.hid (show ∀ w5, Below w9.heap.size w9 w5 → Calls Try.prog 20 #[.pointer (some ⟨z, 0, none⟩)] w5 fun e w' => e = .returned (.bool true) ∧ Below w5.heap.size w5 w' from fun w5 hg => sq_clean z p g r _ _ w5 (hq9.below hg (Nat.le_refl _)) rfl)
            clear hb9 hq9 HS9 HQ8 HB8
            go_wp2
            rename_i K hK
            refine Gt.regionA [Gt.Is (.bool true), Gt.Is (.bool true), Gt.Is (.int .i64 7), Gt.Is (.bool true), Gt.Is (.bool true), Gt.Is (.pointer (some ⟨z, 0, none⟩)), LdIs nk Kp, Gt.Is (.string σ), Gt.Is (.string σ), Gt.Is (.bool true), Gt.Is (.bool true), Gt.Is (.bool true), Gt.Is undef, Gt.Is undef, Gt.Is undef, Gt.Is undef, Gt.Is undef, Gt.Is undef, Gt.Is undef, Gt.Is undef, Gt.Is undef, Gt.Is undef, Gt.Is (.bool true), Gt.Is (.bool true), Gt.Is (.bool true), Gt.Is (.pointer (some ⟨z, 0, none⟩)), Gt.Is (.bool true), Gt.Is (.bool true), Gt.Is (.bool true)] 107
              [⟨[], [], none⟩, ⟨[(0, 79)], [], none⟩, ⟨[(1, 80)], [14], some (80, true)⟩, ⟨[(1, 80), (2, 81)], [], some (80, true)⟩, ⟨[(1, 80), (3, 82)], [], some (80, true)⟩, ⟨[(4, 83)], [11], some (83, true)⟩, ⟨[(4, 83), (5, 84)], [], some (83, true)⟩, ⟨[(4, 83), (6, 85)], [], some (83, true)⟩, ⟨[(4, 83)], [13], some (83, true)⟩, ⟨[(4, 83), (7, 86), (8, 87)], [], some (83, true)⟩, ⟨[(1, 80), (4, 83), (9, 88)], [], some (80, true)⟩, ⟨[(1, 80), (10, 89)], [], some (80, true)⟩, ⟨[(11, 90)], [14], some (90, false)⟩, ⟨[(11, 90), (12, 91)], [], some (90, false)⟩, ⟨[(11, 90), (13, 92)], [], some (90, false)⟩, ⟨[(14, 93)], [11], some (93, true)⟩, ⟨[(14, 93), (15, 94)], [], some (93, true)⟩, ⟨[(14, 93), (16, 95)], [], some (93, true)⟩, ⟨[(14, 93)], [3], some (93, true)⟩, ⟨[(14, 93), (18, 97)], [], some (93, true)⟩, ⟨[(14, 93), (17, 96), (19, 98)], [], some (93, true)⟩, ⟨[(11, 90), (14, 93), (20, 99)], [], some (90, false)⟩, ⟨[(1, 80), (11, 90), (21, 100)], [], some (80, true)⟩, ⟨[(1, 80), (22, 101)], [], none⟩, ⟨[(23, 102)], [], none⟩, ⟨[(24, 103)], [11], some (103, true)⟩, ⟨[(24, 103), (25, 104)], [], some (103, true)⟩, ⟨[(24, 103), (26, 105)], [], none⟩, ⟨[(27, 106)], [], none⟩]
              [(0, 79), (1, 80), (2, 81), (3, 82), (4, 83), (5, 84), (6, 85), (7, 86), (8, 87), (9, 88), (10, 89), (11, 90), (12, 91), (13, 92), (14, 93), (15, 94), (16, 95), (17, 96), (18, 97), (19, 98), (20, 99), (21, 100), (22, 101), (23, 102), (24, 103), (25, 104), (26, 105), (27, 106), (28, 10)] (by kernel_rfl) (by kernel_rfl) (by kernel_rfl) (by kernel_rfl) ?_ ?_ ?_
            · simp only [Gt.Monos]
              repeat' apply And.intro
              all_goals (first | exact trivial | exact Gt.Is.mono _ | exact LdIs.mono _ _)
            · simp only [Gt.Obs]
              repeat' apply And.intro
              all_goals try exact trivial
              all_goals (
                intro a w5 hg
                have hg' : Below w9.heap.size w9 w5 := hg
                simp only [Gt.Pre, Gt.Kept, Gt.Guarded, Gt.tys, List.getD_cons_zero, List.getD_cons_succ, Gt.Is, Nat.zero_add, Nat.reduceAdd]
                intros
                try (refine ⟨fun _ => ?_, fun hne => absurd (by assumption) hne⟩))
              all_goals (first
                | exact Gt.ok_move rfl (by assumption)
                | exact Gt.ok_assign rfl (by assumption)
                | exact Gt.ok_pick rfl (by assumption) (by rw [if_pos rfl]; assumption)
                | (exact ⟨fun h => absurd (show Value.bool false = Value.bool true from h.symm.trans (by assumption)) (by intro h; cases h), fun _ => trivial⟩)
                | (exact ⟨fun h => absurd (show Value.bool true = Value.bool false from h.symm.trans (by assumption)) (by intro h; cases h), fun _ => trivial⟩)
                | (exact ⟨fun h => absurd (show Value.bool true = undef from h.symm.trans (by assumption)) (by intro h; simp [undef] at h), fun _ => trivial⟩)
                | (exact Gt.ok_call (f := 10) rfl #[] (by kernel_rfl) (by simp) ((answers_any _).mono fun e w6 h => ⟨_, h.1, h.2, rfl⟩))
                | (exact Gt.ok_call (f := 16) rfl #[.pointer (some ⟨z, 0, none⟩)] (by kernel_rfl) (by simp [*]) ((HLD.out w5 hg').mono fun e w6 h => by obtain ⟨A6, c6, h1, h2, h3⟩ := h; exact ⟨_, h1, h3, A6, c6, rfl, h2⟩))
                | (exact Gt.ok_call (f := 20) rfl #[.pointer (some ⟨z, 0, none⟩)] (by kernel_rfl) (by simp [*]) ((HCL.out w5 hg').mono fun e w6 h => ⟨_, h.1, h.2, rfl⟩))
                | (rename_i h6 _
                   obtain ⟨A6, c6, e6, hI6⟩ := h6
                   have k5 := conv_load hI6 HNK.out
                   rw [← HSG.out] at k5
                   exact Gt.ok_convert rfl e6 k5 rfl)
                | (refine Gt.ok_run ?_ rfl
                   simp only [execOp, *]
                   go_simp
                   done))
            · intro a w5 hg
              have hg' : Below w9.heap.size w9 w5 := hg
              simp only [Gt.Pre, Gt.tys, List.getD_cons_zero, List.getD_cons_succ, Gt.Is]
              intro h0 h1 h2 h3 h4 h5 h6 h7 h8 h9 h10 h11 h12 h13 h14 h15 h16 h17 h18 h19 h20 h21 h22 h23 h24 h25 h26 h27 h28
              obtain ⟨A6, c6, e6, _⟩ := h6
              show K _ _
              refine hK _ _ ?_
              simp only [Gt.puts, List.foldl_cons, List.foldl_nil, h0, h1, h2, h3, h4, h5, h7, h8, h9, h10, h11, h12, h13, h14, h15, h16, h17, h18, h19, h20, h21, h22, h23, h24, h25, h26, h27, h28, e6]
              simp only [Act.put, List.setIfInBounds_toArray, List.set_cons_zero, List.set_cons_succ]
              go_wp2
              go_ret
              exact ⟨rfl, HB9.out.trans (hg'.mono HB9.out.size)⟩
          · have hI8 : In w8b w.heap.size A3 c3 l3 := HI3.out.below HB8.out
            have HS9 := Lib.hid (sq_free z p g r w.heap.size u6 _ Kp l3 A3 n3 c3 w8b HQ8.out hI8 (fun o hne => ⟨in_no hI8 HZ.out hne o, in_no hI8 HP.out hne o, in_no hI8 HG.out hne o⟩) HN3.out (by omega) (by have := HU8.out; omega) rfl)
            clear hI8
            go_wp2_with fail
            refine HS9.out.mono ?_
            rintro e w9 ⟨rfl, hq9, hk9⟩
            have HB9 := Lib.hid (HB8.out.trans (hk9.below HB8.out.size HZ.out HP.out HG.out))
            have HLD := Lib.hid (show ∀ w5, Below w9.heap.size w9 w5 → Calls Try.prog 16 #[.pointer (some ⟨z, 0, none⟩)] w5 fun e w' => ∃ A c, e = .returned (.slice A n3 c) ∧ In w' w'.heap.size A c l3 ∧ Below w5.heap.size w5 w' from fun w5 hg => by
              rw [HN3.out]; exact sq_load z p g r _ _ w5 (hq9.below hg (Nat.le_refl _)))
            have HCL := Lib.hid (show ∀ w5, Below w9.heap.size w9 w5 → Calls Try.prog 20 #[.pointer (some ⟨z, 0, none⟩)] w5 fun e w' => e = .returned (.bool true) ∧ Below w5.heap.size w5 w' from fun w5 hg => sq_clean z p g r _ _ w5 (hq9.below hg (Nat.le_refl _)) rfl)
            have HCV := Lib.hid (show ∀ w5, Below w9.heap.size w9 w5 → (convert 28 9 (.slice A3 n3 c3)).run Try.prog w5 = .ok (.string σ3) w5 from fun w5 hg => by
              have h2 := conv_sl (P := Try.prog) (HI3.out.below (HB9.out.trans (hg.mono HB9.out.size))).sl Try.underlying28 Try.underlying5 Try.underlying9 c3
              rw [← HN3.out, ← HS3.out] at h2
              exact h2)
            clear hk9 hq9 HS9 HQ8 HB8
            go_wp2
            rename_i K hK
            refine Gt.regionA [Gt.Is (.bool true), Gt.Is (.bool true), Gt.Is (.int .i64 0), Gt.Is (.bool false), Gt.Is (.bool false), Gt.Is undef, Gt.Is undef, Gt.Is undef, Gt.Is undef, Gt.Is undef, Gt.Is (.bool false), Gt.Is (.bool false), Gt.Is (.int .i64 0), Gt.Is (.bool true), Gt.Is (.bool true), Gt.Is (.pointer (some ⟨z, 0, none⟩)), LdIs n3 l3, Gt.Is (.string σ3), Gt.Is (.slice A3 n3 c3), Gt.Is (.string σ3), Gt.Is (.bool true), Gt.Is (.bool true), Gt.Is (.bool true), Gt.Is (.bool true), Gt.Is (.bool true), Gt.Is (.pointer (some ⟨z, 0, none⟩)), Gt.Is (.bool true), Gt.Is (.bool true), Gt.Is (.bool true)] 107
              [⟨[], [], none⟩, ⟨[(0, 79)], [], none⟩, ⟨[(1, 80)], [14], some (80, true)⟩, ⟨[(1, 80), (2, 81)], [], some (80, true)⟩, ⟨[(1, 80), (3, 82)], [], some (80, true)⟩, ⟨[(4, 83)], [11], some (83, true)⟩, ⟨[(4, 83), (5, 84)], [], some (83, true)⟩, ⟨[(4, 83), (6, 85)], [], some (83, true)⟩, ⟨[(4, 83)], [13], some (83, true)⟩, ⟨[(4, 83), (7, 86), (8, 87)], [], some (83, true)⟩, ⟨[(1, 80), (4, 83), (9, 88)], [], some (80, true)⟩, ⟨[(1, 80), (10, 89)], [], some (80, true)⟩, ⟨[(11, 90)], [14], some (90, false)⟩, ⟨[(11, 90), (12, 91)], [], some (90, false)⟩, ⟨[(11, 90), (13, 92)], [], some (90, false)⟩, ⟨[(14, 93)], [11], some (93, true)⟩, ⟨[(14, 93), (15, 94)], [], some (93, true)⟩, ⟨[(14, 93), (16, 95)], [], some (93, true)⟩, ⟨[(14, 93)], [3], some (93, true)⟩, ⟨[(14, 93), (18, 97)], [], some (93, true)⟩, ⟨[(14, 93), (17, 96), (19, 98)], [], some (93, true)⟩, ⟨[(11, 90), (14, 93), (20, 99)], [], some (90, false)⟩, ⟨[(1, 80), (11, 90), (21, 100)], [], some (80, true)⟩, ⟨[(1, 80), (22, 101)], [], none⟩, ⟨[(23, 102)], [], none⟩, ⟨[(24, 103)], [11], some (103, true)⟩, ⟨[(24, 103), (25, 104)], [], some (103, true)⟩, ⟨[(24, 103), (26, 105)], [], none⟩, ⟨[(27, 106)], [], none⟩]
              [(0, 79), (1, 80), (2, 81), (3, 82), (4, 83), (5, 84), (6, 85), (7, 86), (8, 87), (9, 88), (10, 89), (11, 90), (12, 91), (13, 92), (14, 93), (15, 94), (16, 95), (17, 96), (18, 97), (19, 98), (20, 99), (21, 100), (22, 101), (23, 102), (24, 103), (25, 104), (26, 105), (27, 106), (28, 10)] (by kernel_rfl) (by kernel_rfl) (by kernel_rfl) (by kernel_rfl) ?_ ?_ ?_
            · simp only [Gt.Monos]
              repeat' apply And.intro
              all_goals (first | exact trivial | exact Gt.Is.mono _ | exact LdIs.mono _ _)
            · simp only [Gt.Obs]
              repeat' apply And.intro
              all_goals try exact trivial
              all_goals (
                intro a w5 hg
                have hg' : Below w9.heap.size w9 w5 := hg
                simp only [Gt.Pre, Gt.Kept, Gt.Guarded, Gt.tys, List.getD_cons_zero, List.getD_cons_succ, Gt.Is, Nat.zero_add, Nat.reduceAdd]
                intros
                try (refine ⟨fun _ => ?_, fun hne => absurd (by assumption) hne⟩))
              all_goals (first
                | exact Gt.ok_move rfl (by assumption)
                | exact Gt.ok_assign rfl (by assumption)
                | exact Gt.ok_pick rfl (by assumption) (by rw [if_pos rfl]; assumption)
                | (exact ⟨fun h => absurd (show Value.bool false = Value.bool true from h.symm.trans (by assumption)) (by intro h; cases h), fun _ => trivial⟩)
                | (exact ⟨fun h => absurd (show Value.bool true = Value.bool false from h.symm.trans (by assumption)) (by intro h; cases h), fun _ => trivial⟩)
                | (exact ⟨fun h => absurd (show Value.bool true = undef from h.symm.trans (by assumption)) (by intro h; simp [undef] at h), fun _ => trivial⟩)
                | (exact Gt.ok_call (f := 10) rfl #[] (by kernel_rfl) (by simp) ((answers_any _).mono fun e w6 h => ⟨_, h.1, h.2, rfl⟩))
                | (exact Gt.ok_call (f := 16) rfl #[.pointer (some ⟨z, 0, none⟩)] (by kernel_rfl) (by simp [*]) ((HLD.out w5 hg').mono fun e w6 h => by obtain ⟨A6, c6, h1, h2, h3⟩ := h; exact ⟨_, h1, h3, A6, c6, rfl, h2⟩))
                | (exact Gt.ok_call (f := 20) rfl #[.pointer (some ⟨z, 0, none⟩)] (by kernel_rfl) (by simp [*]) ((HCL.out w5 hg').mono fun e w6 h => ⟨_, h.1, h.2, rfl⟩))
                | (rename_i h6 _
                   obtain ⟨A6, c6, e6, hI6⟩ := h6
                   have k5 := conv_load hI6 HN3.out
                   rw [← HS3.out] at k5
                   exact Gt.ok_convert rfl e6 k5 rfl)
                | (exact Gt.ok_convert rfl (by assumption) (HCV.out w5 hg') rfl)
                | (refine Gt.ok_run ?_ rfl
                   simp only [execOp, *]
                   go_simp
                   done))
            · intro a w5 hg
              have hg' : Below w9.heap.size w9 w5 := hg
              simp only [Gt.Pre, Gt.tys, List.getD_cons_zero, List.getD_cons_succ, Gt.Is]
              intro h0 h1 h2 h3 h4 h5 h6 h7 h8 h9 h10 h11 h12 h13 h14 h15 h16 h17 h18 h19 h20 h21 h22 h23 h24 h25 h26 h27 h28
              obtain ⟨A6, c6, e6, _⟩ := h16
              show K _ _
              refine hK _ _ ?_
              simp only [Gt.puts, List.foldl_cons, List.foldl_nil, h0, h1, h2, h3, h4, h5, h6, h7, h8, h9, h10, h11, h12, h13, h14, h15, h17, h18, h19, h20, h21, h22, h23, h24, h25, h26, h27, h28, e6]
              simp only [Act.put, List.setIfInBounds_toArray, List.set_cons_zero, List.set_cons_succ]
              go_wp2
              go_ret
              exact ⟨rfl, HB9.out.trans (hg'.mono HB9.out.size)⟩
        · have hev0 : (ev == 0) = false := by simpa using hev
          clear hev
          go_wp2_with fail
          refine HL6.out.mono ?_
          rintro e w7 ⟨A7, c7, rfl, hi7, hb7⟩
          obtain ⟨n7, hn7⟩ : ∃ n7, n7 = Kp.length := ⟨_, rfl⟩
          rw [← hn7]
          have hcv7 := conv_load hi7 hn7
          rw [← HSG.out] at hcv7
          have hq7 : Sq w7 z p g r ⟨-1, false, u6⟩ Kp := HQ6.out.below hb7 (Nat.le_refl _)
          have HB7 := Lib.hid (HB6.out.trans (hb7.mono HB6.out.size))
          have HQ7 := Lib.hid hq7
          have HCL7 := Lib.hid (sq_clean z p g r Kp ⟨-1, false, u6⟩ w7 hq7 rfl)
          clear hi7 hb7 hn7 hq7 HL6 HQ6 HB6
          go_wp2_with fail
          refine HCL7.out.mono ?_
          rintro e w8 ⟨rfl, hb8⟩
          have hq8 : Sq w8 z p g r ⟨-1, false, u6⟩ Kp := HQ7.out.below hb8 (Nat.le_refl _)
          have HQ8 := Lib.hid hq8
          have HB8 := Lib.hid (HB7.out.trans (hb8.mono HB7.out.size))
          have HD8 := Lib.hid (sq_down z p g r Kp ⟨-1, false, u6⟩ w8 hq8)
          clear hb8 hq8 hcv7 HCL7 HQ7 HB7
          go_wp2_with fail
          refine HD8.out.mono ?_
          rintro e w8b ⟨rfl, hw8⟩
          subst hw8
          by_cases ht3 : r < tk n3
          · have HS9 := Lib.hid (sq_big z p g r Kp ⟨-1, false, u6⟩ A3 n3 c3 w8b HQ8.out ht3 (by have := HC3.out; have := HI3.out.cap; have := HN3.out; omega))
            go_wp2_with fail
            refine HS9.out.mono ?_
            rintro e w9 ⟨rfl, hb9⟩
            have hq9 : Sq w9 z p g r ⟨-1, false, u6⟩ Kp := HQ8.out.below hb9 (Nat.le_refl _)
            have HB9 := Lib.hid (HB8.out.trans (hb9.mono HB8.out.size))
            have HLD := Lib.hid (show ∀ w5, Below w9.heap.size w9 w5 → Calls Try.prog 16 #[.pointer (some ⟨z, 0, none⟩)] w5 fun e w' => ∃ A c, e = .returned (.slice A nk c) ∧ In w' w'.heap.size A c Kp ∧ Below w5.heap.size w5 w' from fun w5 hg => by
              rw [HNK.out]; exact sq_load z p g r _ _ w5 (hq9.below hg (Nat.le_refl _)))
            have HCL := Lib.hid (show ∀ w5, Below w9.heap.size w9 w5 → Calls Try.prog 20 #[.pointer (some ⟨z, 0, none⟩)] w5 fun e w' => e = .returned (.bool true) ∧ Below w5.heap.size w5 w' from fun w5 hg => sq_clean z p g r _ _ w5 (hq9.below hg (Nat.le_refl _)) rfl)
            clear hb9 hq9 HS9 HQ8 HB8
            go_wp2
            rename_i K hK
            refine Gt.regionA [Gt.Is (.bool true), Gt.Is (.bool true), Gt.Is (.int .i64 7), Gt.Is (.bool true), Gt.Is (.bool true), Gt.Is (.pointer (some ⟨z, 0, none⟩)), LdIs nk Kp, Gt.Is (.string σ), Gt.Is (.string σ), Gt.Is (.bool true), Gt.Is (.bool true), Gt.Is (.bool true), Gt.Is undef, Gt.Is undef, Gt.Is undef, Gt.Is undef, Gt.Is undef, Gt.Is undef, Gt.Is undef, Gt.Is undef, Gt.Is undef, Gt.Is undef, Gt.Is (.bool true), Gt.Is (.bool true), Gt.Is (.bool true), Gt.Is (.pointer (some ⟨z, 0, none⟩)), Gt.Is (.bool true), Gt.Is (.bool true), Gt.Is (.bool true)] 107
              [⟨[], [], none⟩, ⟨[(0, 79)], [], none⟩, ⟨[(1, 80)], [14], some (80, true)⟩, ⟨[(1, 80), (2, 81)], [], some (80, true)⟩, ⟨[(1, 80), (3, 82)], [], some (80, true)⟩, ⟨[(4, 83)], [11], some (83, true)⟩, ⟨[(4, 83), (5, 84)], [], some (83, true)⟩, ⟨[(4, 83), (6, 85)], [], some (83, true)⟩, ⟨[(4, 83)], [13], some (83, true)⟩, ⟨[(4, 83), (7, 86), (8, 87)], [], some (83, true)⟩, ⟨[(1, 80), (4, 83), (9, 88)], [], some (80, true)⟩, ⟨[(1, 80), (10, 89)], [], some (80, true)⟩, ⟨[(11, 90)], [14], some (90, false)⟩, ⟨[(11, 90), (12, 91)], [], some (90, false)⟩, ⟨[(11, 90), (13, 92)], [], some (90, false)⟩, ⟨[(14, 93)], [11], some (93, true)⟩, ⟨[(14, 93), (15, 94)], [], some (93, true)⟩, ⟨[(14, 93), (16, 95)], [], some (93, true)⟩, ⟨[(14, 93)], [3], some (93, true)⟩, ⟨[(14, 93), (18, 97)], [], some (93, true)⟩, ⟨[(14, 93), (17, 96), (19, 98)], [], some (93, true)⟩, ⟨[(11, 90), (14, 93), (20, 99)], [], some (90, false)⟩, ⟨[(1, 80), (11, 90), (21, 100)], [], some (80, true)⟩, ⟨[(1, 80), (22, 101)], [], none⟩, ⟨[(23, 102)], [], none⟩, ⟨[(24, 103)], [11], some (103, true)⟩, ⟨[(24, 103), (25, 104)], [], some (103, true)⟩, ⟨[(24, 103), (26, 105)], [], none⟩, ⟨[(27, 106)], [], none⟩]
              [(0, 79), (1, 80), (2, 81), (3, 82), (4, 83), (5, 84), (6, 85), (7, 86), (8, 87), (9, 88), (10, 89), (11, 90), (12, 91), (13, 92), (14, 93), (15, 94), (16, 95), (17, 96), (18, 97), (19, 98), (20, 99), (21, 100), (22, 101), (23, 102), (24, 103), (25, 104), (26, 105), (27, 106), (28, 10)] (by kernel_rfl) (by kernel_rfl) (by kernel_rfl) (by kernel_rfl) ?_ ?_ ?_
            · simp only [Gt.Monos]
              repeat' apply And.intro
              all_goals (first | exact trivial | exact Gt.Is.mono _ | exact LdIs.mono _ _)
            · simp only [Gt.Obs]
              repeat' apply And.intro
              all_goals try exact trivial
              all_goals (
                intro a w5 hg
                have hg' : Below w9.heap.size w9 w5 := hg
                simp only [Gt.Pre, Gt.Kept, Gt.Guarded, Gt.tys, List.getD_cons_zero, List.getD_cons_succ, Gt.Is, Nat.zero_add, Nat.reduceAdd]
                intros
                try (refine ⟨fun _ => ?_, fun hne => absurd (by assumption) hne⟩))
              all_goals (first
                | exact Gt.ok_move rfl (by assumption)
                | exact Gt.ok_assign rfl (by assumption)
                | exact Gt.ok_pick rfl (by assumption) (by rw [if_pos rfl]; assumption)
                | (exact ⟨fun h => absurd (show Value.bool false = Value.bool true from h.symm.trans (by assumption)) (by intro h; cases h), fun _ => trivial⟩)
                | (exact ⟨fun h => absurd (show Value.bool true = Value.bool false from h.symm.trans (by assumption)) (by intro h; cases h), fun _ => trivial⟩)
                | (exact ⟨fun h => absurd (show Value.bool true = undef from h.symm.trans (by assumption)) (by intro h; simp [undef] at h), fun _ => trivial⟩)
                | (exact Gt.ok_call (f := 10) rfl #[] (by kernel_rfl) (by simp) ((answers_any _).mono fun e w6 h => ⟨_, h.1, h.2, rfl⟩))
                | (exact Gt.ok_call (f := 16) rfl #[.pointer (some ⟨z, 0, none⟩)] (by kernel_rfl) (by simp [*]) ((HLD.out w5 hg').mono fun e w6 h => by obtain ⟨A6, c6, h1, h2, h3⟩ := h; exact ⟨_, h1, h3, A6, c6, rfl, h2⟩))
                | (exact Gt.ok_call (f := 20) rfl #[.pointer (some ⟨z, 0, none⟩)] (by kernel_rfl) (by simp [*]) ((HCL.out w5 hg').mono fun e w6 h => ⟨_, h.1, h.2, rfl⟩))
                | (rename_i h6 _
                   obtain ⟨A6, c6, e6, hI6⟩ := h6
                   have k5 := conv_load hI6 HNK.out
                   rw [← HSG.out] at k5
                   exact Gt.ok_convert rfl e6 k5 rfl)
                | (refine Gt.ok_run ?_ rfl
                   simp only [execOp, *]
                   go_simp
                   done))
            · intro a w5 hg
              have hg' : Below w9.heap.size w9 w5 := hg
              simp only [Gt.Pre, Gt.tys, List.getD_cons_zero, List.getD_cons_succ, Gt.Is]
              intro h0 h1 h2 h3 h4 h5 h6 h7 h8 h9 h10 h11 h12 h13 h14 h15 h16 h17 h18 h19 h20 h21 h22 h23 h24 h25 h26 h27 h28
              obtain ⟨A6, c6, e6, _⟩ := h6
              show K _ _
              refine hK _ _ ?_
              simp only [Gt.puts, List.foldl_cons, List.foldl_nil, h0, h1, h2, h3, h4, h5, h7, h8, h9, h10, h11, h12, h13, h14, h15, h16, h17, h18, h19, h20, h21, h22, h23, h24, h25, h26, h27, h28, e6]
              simp only [Act.put, List.setIfInBounds_toArray, List.set_cons_zero, List.set_cons_succ]
              go_wp2
              go_ret
              exact ⟨rfl, HB9.out.trans (hg'.mono HB9.out.size)⟩
          · have hI8 : In w8b w.heap.size A3 c3 l3 := HI3.out.below HB8.out
            have HS9 := Lib.hid (sq_free z p g r w.heap.size u6 _ Kp l3 A3 n3 c3 w8b HQ8.out hI8 (fun o hne => ⟨in_no hI8 HZ.out hne o, in_no hI8 HP.out hne o, in_no hI8 HG.out hne o⟩) HN3.out (by omega) (by have := HU8.out; omega) rfl)
            clear hI8
            go_wp2_with fail
            refine HS9.out.mono ?_
            rintro e w9 ⟨rfl, hq9, hk9⟩
            have HB9 := Lib.hid (HB8.out.trans (hk9.below HB8.out.size HZ.out HP.out HG.out))
            have HLD := Lib.hid (show ∀ w5, Below w9.heap.size w9 w5 → Calls Try.prog 16 #[.pointer (some ⟨z, 0, none⟩)] w5 fun e w' => ∃ A c, e = .returned (.slice A n3 c) ∧ In w' w'.heap.size A c l3 ∧ Below w5.heap.size w5 w' from fun w5 hg => by
              rw [HN3.out]; exact sq_load z p g r _ _ w5 (hq9.below hg (Nat.le_refl _)))
            have HCL := Lib.hid (show ∀ w5, Below w9.heap.size w9 w5 → Calls Try.prog 20 #[.pointer (some ⟨z, 0, none⟩)] w5 fun e w' => e = .returned (.bool true) ∧ Below w5.heap.size w5 w' from fun w5 hg => sq_clean z p g r _ _ w5 (hq9.below hg (Nat.le_refl _)) rfl)
            have HCV := Lib.hid (show ∀ w5, Below w9.heap.size w9 w5 → (convert 28 9 (.slice A3 n3 c3)).run Try.prog w5 = .ok (.string σ3) w5 from fun w5 hg => by
              have h2 := conv_sl (P := Try.prog) (HI3.out.below (HB9.out.trans (hg.mono HB9.out.size))).sl Try.underlying28 Try.underlying5 Try.underlying9 c3
              rw [← HN3.out, ← HS3.out] at h2
              exact h2)
            clear hk9 hq9 HS9 HQ8 HB8
            go_wp2
            rename_i K hK
            refine Gt.regionA [Gt.Is (.bool true), Gt.Is (.bool true), Gt.Is (.int .i64 0), Gt.Is (.bool false), Gt.Is (.bool false), Gt.Is undef, Gt.Is undef, Gt.Is undef, Gt.Is undef, Gt.Is undef, Gt.Is (.bool false), Gt.Is (.bool false), Gt.Is (.int .i64 0), Gt.Is (.bool true), Gt.Is (.bool true), Gt.Is (.pointer (some ⟨z, 0, none⟩)), LdIs n3 l3, Gt.Is (.string σ3), Gt.Is (.slice A3 n3 c3), Gt.Is (.string σ3), Gt.Is (.bool true), Gt.Is (.bool true), Gt.Is (.bool true), Gt.Is (.bool true), Gt.Is (.bool true), Gt.Is (.pointer (some ⟨z, 0, none⟩)), Gt.Is (.bool true), Gt.Is (.bool true), Gt.Is (.bool true)] 107
              [⟨[], [], none⟩, ⟨[(0, 79)], [], none⟩, ⟨[(1, 80)], [14], some (80, true)⟩, ⟨[(1, 80), (2, 81)], [], some (80, true)⟩, ⟨[(1, 80), (3, 82)], [], some (80, true)⟩, ⟨[(4, 83)], [11], some (83, true)⟩, ⟨[(4, 83), (5, 84)], [], some (83, true)⟩, ⟨[(4, 83), (6, 85)], [], some (83, true)⟩, ⟨[(4, 83)], [13], some (83, true)⟩, ⟨[(4, 83), (7, 86), (8, 87)], [], some (83, true)⟩, ⟨[(1, 80), (4, 83), (9, 88)], [], some (80, true)⟩, ⟨[(1, 80), (10, 89)], [], some (80, true)⟩, ⟨[(11, 90)], [14], some (90, false)⟩, ⟨[(11, 90), (12, 91)], [], some (90, false)⟩, ⟨[(11, 90), (13, 92)], [], some (90, false)⟩, ⟨[(14, 93)], [11], some (93, true)⟩, ⟨[(14, 93), (15, 94)], [], some (93, true)⟩, ⟨[(14, 93), (16, 95)], [], some (93, true)⟩, ⟨[(14, 93)], [3], some (93, true)⟩, ⟨[(14, 93), (18, 97)], [], some (93, true)⟩, ⟨[(14, 93), (17, 96), (19, 98)], [], some (93, true)⟩, ⟨[(11, 90), (14, 93), (20, 99)], [], some (90, false)⟩, ⟨[(1, 80), (11, 90), (21, 100)], [], some (80, true)⟩, ⟨[(1, 80), (22, 101)], [], none⟩, ⟨[(23, 102)], [], none⟩, ⟨[(24, 103)], [11], some (103, true)⟩, ⟨[(24, 103), (25, 104)], [], some (103, true)⟩, ⟨[(24, 103), (26, 105)], [], none⟩, ⟨[(27, 106)], [], none⟩]
              [(0, 79), (1, 80), (2, 81), (3, 82), (4, 83), (5, 84), (6, 85), (7, 86), (8, 87), (9, 88), (10, 89), (11, 90), (12, 91), (13, 92), (14, 93), (15, 94), (16, 95), (17, 96), (18, 97), (19, 98), (20, 99), (21, 100), (22, 101), (23, 102), (24, 103), (25, 104), (26, 105), (27, 106), (28, 10)] (by kernel_rfl) (by kernel_rfl) (by kernel_rfl) (by kernel_rfl) ?_ ?_ ?_
            · simp only [Gt.Monos]
              repeat' apply And.intro
              all_goals (first | exact trivial | exact Gt.Is.mono _ | exact LdIs.mono _ _)
            · simp only [Gt.Obs]
              repeat' apply And.intro
              all_goals try exact trivial
              all_goals (
                intro a w5 hg
                have hg' : Below w9.heap.size w9 w5 := hg
                simp only [Gt.Pre, Gt.Kept, Gt.Guarded, Gt.tys, List.getD_cons_zero, List.getD_cons_succ, Gt.Is, Nat.zero_add, Nat.reduceAdd]
                intros
                try (refine ⟨fun _ => ?_, fun hne => absurd (by assumption) hne⟩))
              all_goals (first
                | exact Gt.ok_move rfl (by assumption)
                | exact Gt.ok_assign rfl (by assumption)
                | exact Gt.ok_pick rfl (by assumption) (by rw [if_pos rfl]; assumption)
                | (exact ⟨fun h => absurd (show Value.bool false = Value.bool true from h.symm.trans (by assumption)) (by intro h; cases h), fun _ => trivial⟩)
                | (exact ⟨fun h => absurd (show Value.bool true = Value.bool false from h.symm.trans (by assumption)) (by intro h; cases h), fun _ => trivial⟩)
                | (exact ⟨fun h => absurd (show Value.bool true = undef from h.symm.trans (by assumption)) (by intro h; simp [undef] at h), fun _ => trivial⟩)
                | (exact Gt.ok_call (f := 10) rfl #[] (by kernel_rfl) (by simp) ((answers_any _).mono fun e w6 h => ⟨_, h.1, h.2, rfl⟩))
                | (exact Gt.ok_call (f := 16) rfl #[.pointer (some ⟨z, 0, none⟩)] (by kernel_rfl) (by simp [*]) ((HLD.out w5 hg').mono fun e w6 h => by obtain ⟨A6, c6, h1, h2, h3⟩ := h; exact ⟨_, h1, h3, A6, c6, rfl, h2⟩))
                | (exact Gt.ok_call (f := 20) rfl #[.pointer (some ⟨z, 0, none⟩)] (by kernel_rfl) (by simp [*]) ((HCL.out w5 hg').mono fun e w6 h => ⟨_, h.1, h.2, rfl⟩))
                | (rename_i h6 _
                   obtain ⟨A6, c6, e6, hI6⟩ := h6
                   have k5 := conv_load hI6 HN3.out
                   rw [← HS3.out] at k5
                   exact Gt.ok_convert rfl e6 k5 rfl)
                | (exact Gt.ok_convert rfl (by assumption) (HCV.out w5 hg') rfl)
                | (refine Gt.ok_run ?_ rfl
                   simp only [execOp, *]
                   go_simp
                   done))
            · intro a w5 hg
              have hg' : Below w9.heap.size w9 w5 := hg
              simp only [Gt.Pre, Gt.tys, List.getD_cons_zero, List.getD_cons_succ, Gt.Is]
              intro h0 h1 h2 h3 h4 h5 h6 h7 h8 h9 h10 h11 h12 h13 h14 h15 h16 h17 h18 h19 h20 h21 h22 h23 h24 h25 h26 h27 h28
              obtain ⟨A6, c6, e6, _⟩ := h16
              show K _ _
              refine hK _ _ ?_
              simp only [Gt.puts, List.foldl_cons, List.foldl_nil, h0, h1, h2, h3, h4, h5, h6, h7, h8, h9, h10, h11, h12, h13, h14, h15, h17, h18, h19, h20, h21, h22, h23, h24, h25, h26, h27, h28, e6]
              simp only [Act.put, List.setIfInBounds_toArray, List.set_cons_zero, List.set_cons_succ]
              go_wp2
              go_ret
              exact ⟨rfl, HB9.out.trans (hg'.mono HB9.out.size)⟩
      | false =>
        by_cases hev : ev = 0
        · subst hev
          go_wp2_with fail
          refine HL6.out.mono ?_
          rintro e w7 ⟨A7, c7, rfl, hi7, hb7⟩
          obtain ⟨n7, hn7⟩ : ∃ n7, n7 = Kp.length := ⟨_, rfl⟩
          rw [← hn7]
          have hcv7 := conv_load hi7 hn7
          rw [← HSG.out] at hcv7
          have hq7 : Sq w7 z p g r ⟨-1, false, u6⟩ Kp := HQ6.out.below hb7 (Nat.le_refl _)
          have HB7 := Lib.hid (HB6.out.trans (hb7.mono HB6.out.size))
          have HQ7 := Lib.hid hq7
          have HCL7 := Lib.hid (sq_clean z p g r Kp ⟨-1, false, u6⟩ w7 hq7 rfl)
          clear hi7 hb7 hn7 hq7 HL6 HQ6 HB6
          go_wp2_with fail
          refine HCL7.out.mono ?_
          rintro e w8 ⟨rfl, hb8⟩
          have hq8 : Sq w8 z p g r ⟨-1, false, u6⟩ Kp := HQ7.out.below hb8 (Nat.le_refl _)
          have HQ8 := Lib.hid hq8
          have HB8 := Lib.hid (HB7.out.trans (hb8.mono HB7.out.size))
          have HD8 := Lib.hid (sq_down z p g r Kp ⟨-1, false, u6⟩ w8 hq8)
          clear hb8 hq8 hcv7 HCL7 HQ7 HB7
          go_wp2_with fail
          refine HD8.out.mono ?_
          rintro e w8b ⟨rfl, hw8⟩
          subst hw8
          by_cases ht3 : r < tk n3
          · have HS9 := Lib.hid (sq_big z p g r Kp ⟨-1, false, u6⟩ A3 n3 c3 w8b HQ8.out ht3 (by have := HC3.out; have := HI3.out.cap; have := HN3.out; omega))
            go_wp2_with fail
            refine HS9.out.mono ?_
            rintro e w9 ⟨rfl, hb9⟩
            have hq9 : Sq w9 z p g r ⟨-1, false, u6⟩ Kp := HQ8.out.below hb9 (Nat.le_refl _)
            have HB9 := Lib.hid (HB8.out.trans (hb9.mono HB8.out.size))
            have HLD := Lib.hid (show ∀ w5, Below w9.heap.size w9 w5 → Calls Try.prog 16 #[.pointer (some ⟨z, 0, none⟩)] w5 fun e w' => ∃ A c, e = .returned (.slice A nk c) ∧ In w' w'.heap.size A c Kp ∧ Below w5.heap.size w5 w' from fun w5 hg => by
              rw [HNK.out]; exact sq_load z p g r _ _ w5 (hq9.below hg (Nat.le_refl _)))
            have HCL := Lib.hid (show ∀ w5, Below w9.heap.size w9 w5 → Calls Try.prog 20 #[.pointer (some ⟨z, 0, none⟩)] w5 fun e w' => e = .returned (.bool true) ∧ Below w5.heap.size w5 w' from fun w5 hg => sq_clean z p g r _ _ w5 (hq9.below hg (Nat.le_refl _)) rfl)
            clear hb9 hq9 HS9 HQ8 HB8
            go_wp2
            rename_i K hK
            refine Gt.regionA [Gt.Is (.bool true), Gt.Is (.bool true), Gt.Is (.int .i64 7), Gt.Is (.bool true), Gt.Is (.bool true), Gt.Is (.pointer (some ⟨z, 0, none⟩)), LdIs nk Kp, Gt.Is (.string σ), Gt.Is (.string σ), Gt.Is (.bool true), Gt.Is (.bool true), Gt.Is (.bool true), Gt.Is undef, Gt.Is undef, Gt.Is undef, Gt.Is undef, Gt.Is undef, Gt.Is undef, Gt.Is undef, Gt.Is undef, Gt.Is undef, Gt.Is undef, Gt.Is (.bool true), Gt.Is (.bool true), Gt.Is (.bool true), Gt.Is (.pointer (some ⟨z, 0, none⟩)), Gt.Is (.bool true), Gt.Is (.bool true), Gt.Is (.bool true)] 107
              [⟨[], [], none⟩, ⟨[(0, 79)], [], none⟩, ⟨[(1, 80)], [14], some (80, true)⟩, ⟨[(1, 80), (2, 81)], [], some (80, true)⟩, ⟨[(1, 80), (3, 82)], [], some (80, true)⟩, ⟨[(4, 83)], [11], some (83, true)⟩, ⟨[(4, 83), (5, 84)], [], some (83, true)⟩, ⟨[(4, 83), (6, 85)], [], some (83, true)⟩, ⟨[(4, 83)], [13], some (83, true)⟩, ⟨[(4, 83), (7, 86), (8, 87)], [], some (83, true)⟩, ⟨[(1, 80), (4, 83), (9, 88)], [], some (80, true)⟩, ⟨[(1, 80), (10, 89)], [], some (80, true)⟩, ⟨[(11, 90)], [14], some (90, false)⟩, ⟨[(11, 90), (12, 91)], [], some (90, false)⟩, ⟨[(11, 90), (13, 92)], [], some (90, false)⟩, ⟨[(14, 93)], [11], some (93, true)⟩, ⟨[(14, 93), (15, 94)], [], some (93, true)⟩, ⟨[(14, 93), (16, 95)], [], some (93, true)⟩, ⟨[(14, 93)], [3], some (93, true)⟩, ⟨[(14, 93), (18, 97)], [], some (93, true)⟩, ⟨[(14, 93), (17, 96), (19, 98)], [], some (93, true)⟩, ⟨[(11, 90), (14, 93), (20, 99)], [], some (90, false)⟩, ⟨[(1, 80), (11, 90), (21, 100)], [], some (80, true)⟩, ⟨[(1, 80), (22, 101)], [], none⟩, ⟨[(23, 102)], [], none⟩, ⟨[(24, 103)], [11], some (103, true)⟩, ⟨[(24, 103), (25, 104)], [], some (103, true)⟩, ⟨[(24, 103), (26, 105)], [], none⟩, ⟨[(27, 106)], [], none⟩]
              [(0, 79), (1, 80), (2, 81), (3, 82), (4, 83), (5, 84), (6, 85), (7, 86), (8, 87), (9, 88), (10, 89), (11, 90), (12, 91), (13, 92), (14, 93), (15, 94), (16, 95), (17, 96), (18, 97), (19, 98), (20, 99), (21, 100), (22, 101), (23, 102), (24, 103), (25, 104), (26, 105), (27, 106), (28, 10)] (by kernel_rfl) (by kernel_rfl) (by kernel_rfl) (by kernel_rfl) ?_ ?_ ?_
            · simp only [Gt.Monos]
              repeat' apply And.intro
              all_goals (first | exact trivial | exact Gt.Is.mono _ | exact LdIs.mono _ _)
            · simp only [Gt.Obs]
              repeat' apply And.intro
              all_goals try exact trivial
              all_goals (
                intro a w5 hg
                have hg' : Below w9.heap.size w9 w5 := hg
                simp only [Gt.Pre, Gt.Kept, Gt.Guarded, Gt.tys, List.getD_cons_zero, List.getD_cons_succ, Gt.Is, Nat.zero_add, Nat.reduceAdd]
                intros
                try (refine ⟨fun _ => ?_, fun hne => absurd (by assumption) hne⟩))
              all_goals (first
                | exact Gt.ok_move rfl (by assumption)
                | exact Gt.ok_assign rfl (by assumption)
                | exact Gt.ok_pick rfl (by assumption) (by rw [if_pos rfl]; assumption)
                | (exact ⟨fun h => absurd (show Value.bool false = Value.bool true from h.symm.trans (by assumption)) (by intro h; cases h), fun _ => trivial⟩)
                | (exact ⟨fun h => absurd (show Value.bool true = Value.bool false from h.symm.trans (by assumption)) (by intro h; cases h), fun _ => trivial⟩)
                | (exact ⟨fun h => absurd (show Value.bool true = undef from h.symm.trans (by assumption)) (by intro h; simp [undef] at h), fun _ => trivial⟩)
                | (exact Gt.ok_call (f := 10) rfl #[] (by kernel_rfl) (by simp) ((answers_any _).mono fun e w6 h => ⟨_, h.1, h.2, rfl⟩))
                | (exact Gt.ok_call (f := 16) rfl #[.pointer (some ⟨z, 0, none⟩)] (by kernel_rfl) (by simp [*]) ((HLD.out w5 hg').mono fun e w6 h => by obtain ⟨A6, c6, h1, h2, h3⟩ := h; exact ⟨_, h1, h3, A6, c6, rfl, h2⟩))
                | (exact Gt.ok_call (f := 20) rfl #[.pointer (some ⟨z, 0, none⟩)] (by kernel_rfl) (by simp [*]) ((HCL.out w5 hg').mono fun e w6 h => ⟨_, h.1, h.2, rfl⟩))
                | (rename_i h6 _
                   obtain ⟨A6, c6, e6, hI6⟩ := h6
                   have k5 := conv_load hI6 HNK.out
                   rw [← HSG.out] at k5
                   exact Gt.ok_convert rfl e6 k5 rfl)
                | (refine Gt.ok_run ?_ rfl
                   simp only [execOp, *]
                   go_simp
                   done))
            · intro a w5 hg
              have hg' : Below w9.heap.size w9 w5 := hg
              simp only [Gt.Pre, Gt.tys, List.getD_cons_zero, List.getD_cons_succ, Gt.Is]
              intro h0 h1 h2 h3 h4 h5 h6 h7 h8 h9 h10 h11 h12 h13 h14 h15 h16 h17 h18 h19 h20 h21 h22 h23 h24 h25 h26 h27 h28
              obtain ⟨A6, c6, e6, _⟩ := h6
              show K _ _
              refine hK _ _ ?_
              simp only [Gt.puts, List.foldl_cons, List.foldl_nil, h0, h1, h2, h3, h4, h5, h7, h8, h9, h10, h11, h12, h13, h14, h15, h16, h17, h18, h19, h20, h21, h22, h23, h24, h25, h26, h27, h28, e6]
              simp only [Act.put, List.setIfInBounds_toArray, List.set_cons_zero, List.set_cons_succ]
              go_wp2
              go_ret
              exact ⟨rfl, HB9.out.trans (hg'.mono HB9.out.size)⟩
          · have hI8 : In w8b w.heap.size A3 c3 l3 := HI3.out.below HB8.out
            have HS9 := Lib.hid (sq_free z p g r w.heap.size u6 _ Kp l3 A3 n3 c3 w8b HQ8.out hI8 (fun o hne => ⟨in_no hI8 HZ.out hne o, in_no hI8 HP.out hne o, in_no hI8 HG.out hne o⟩) HN3.out (by omega) (by have := HU8.out; omega) rfl)
            clear hI8
            go_wp2_with fail
            refine HS9.out.mono ?_
            rintro e w9 ⟨rfl, hq9, hk9⟩
            have HB9 := Lib.hid (HB8.out.trans (hk9.below HB8.out.size HZ.out HP.out HG.out))
            have HLD := Lib.hid (show ∀ w5, Below w9.heap.size w9 w5 → Calls Try.prog 16 #[.pointer (some ⟨z, 0, none⟩)] w5 fun e w' => ∃ A c, e = .returned (.slice A n3 c) ∧ In w' w'.heap.size A c l3 ∧ Below w5.heap.size w5 w' from fun w5 hg => by
              rw [HN3.out]; exact sq_load z p g r _ _ w5 (hq9.below hg (Nat.le_refl _)))
            have HCL := Lib.hid (show ∀ w5, Below w9.heap.size w9 w5 → Calls Try.prog 20 #[.pointer (some ⟨z, 0, none⟩)] w5 fun e w' => e = .returned (.bool true) ∧ Below w5.heap.size w5 w' from fun w5 hg => sq_clean z p g r _ _ w5 (hq9.below hg (Nat.le_refl _)) rfl)
            have HCV := Lib.hid (show ∀ w5, Below w9.heap.size w9 w5 → (convert 28 9 (.slice A3 n3 c3)).run Try.prog w5 = .ok (.string σ3) w5 from fun w5 hg => by
              have h2 := conv_sl (P := Try.prog) (HI3.out.below (HB9.out.trans (hg.mono HB9.out.size))).sl Try.underlying28 Try.underlying5 Try.underlying9 c3
              rw [← HN3.out, ← HS3.out] at h2
              exact h2)
            clear hk9 hq9 HS9 HQ8 HB8
            go_wp2
            rename_i K hK
            refine Gt.regionA [Gt.Is (.bool true), Gt.Is (.bool true), Gt.Is (.int .i64 0), Gt.Is (.bool false), Gt.Is (.bool false), Gt.Is undef, Gt.Is undef, Gt.Is undef, Gt.Is undef, Gt.Is undef, Gt.Is (.bool false), Gt.Is (.bool false), Gt.Is (.int .i64 0), Gt.Is (.bool true), Gt.Is (.bool true), Gt.Is (.pointer (some ⟨z, 0, none⟩)), LdIs n3 l3, Gt.Is (.string σ3), Gt.Is (.slice A3 n3 c3), Gt.Is (.string σ3), Gt.Is (.bool true), Gt.Is (.bool true), Gt.Is (.bool true), Gt.Is (.bool true), Gt.Is (.bool true), Gt.Is (.pointer (some ⟨z, 0, none⟩)), Gt.Is (.bool true), Gt.Is (.bool true), Gt.Is (.bool true)] 107
              [⟨[], [], none⟩, ⟨[(0, 79)], [], none⟩, ⟨[(1, 80)], [14], some (80, true)⟩, ⟨[(1, 80), (2, 81)], [], some (80, true)⟩, ⟨[(1, 80), (3, 82)], [], some (80, true)⟩, ⟨[(4, 83)], [11], some (83, true)⟩, ⟨[(4, 83), (5, 84)], [], some (83, true)⟩, ⟨[(4, 83), (6, 85)], [], some (83, true)⟩, ⟨[(4, 83)], [13], some (83, true)⟩, ⟨[(4, 83), (7, 86), (8, 87)], [], some (83, true)⟩, ⟨[(1, 80), (4, 83), (9, 88)], [], some (80, true)⟩, ⟨[(1, 80), (10, 89)], [], some (80, true)⟩, ⟨[(11, 90)], [14], some (90, false)⟩, ⟨[(11, 90), (12, 91)], [], some (90, false)⟩, ⟨[(11, 90), (13, 92)], [], some (90, false)⟩, ⟨[(14, 93)], [11], some (93, true)⟩, ⟨[(14, 93), (15, 94)], [], some (93, true)⟩, ⟨[(14, 93), (16, 95)], [], some (93, true)⟩, ⟨[(14, 93)], [3], some (93, true)⟩, ⟨[(14, 93), (18, 97)], [], some (93, true)⟩, ⟨[(14, 93), (17, 96), (19, 98)], [], some (93, true)⟩, ⟨[(11, 90), (14, 93), (20, 99)], [], some (90, false)⟩, ⟨[(1, 80), (11, 90), (21, 100)], [], some (80, true)⟩, ⟨[(1, 80), (22, 101)], [], none⟩, ⟨[(23, 102)], [], none⟩, ⟨[(24, 103)], [11], some (103, true)⟩, ⟨[(24, 103), (25, 104)], [], some (103, true)⟩, ⟨[(24, 103), (26, 105)], [], none⟩, ⟨[(27, 106)], [], none⟩]
              [(0, 79), (1, 80), (2, 81), (3, 82), (4, 83), (5, 84), (6, 85), (7, 86), (8, 87), (9, 88), (10, 89), (11, 90), (12, 91), (13, 92), (14, 93), (15, 94), (16, 95), (17, 96), (18, 97), (19, 98), (20, 99), (21, 100), (22, 101), (23, 102), (24, 103), (25, 104), (26, 105), (27, 106), (28, 10)] (by kernel_rfl) (by kernel_rfl) (by kernel_rfl) (by kernel_rfl) ?_ ?_ ?_
            · simp only [Gt.Monos]
              repeat' apply And.intro
              all_goals (first | exact trivial | exact Gt.Is.mono _ | exact LdIs.mono _ _)
            · simp only [Gt.Obs]
              repeat' apply And.intro
              all_goals try exact trivial
              all_goals (
                intro a w5 hg
                have hg' : Below w9.heap.size w9 w5 := hg
                simp only [Gt.Pre, Gt.Kept, Gt.Guarded, Gt.tys, List.getD_cons_zero, List.getD_cons_succ, Gt.Is, Nat.zero_add, Nat.reduceAdd]
                intros
                try (refine ⟨fun _ => ?_, fun hne => absurd (by assumption) hne⟩))
              all_goals (first
                | exact Gt.ok_move rfl (by assumption)
                | exact Gt.ok_assign rfl (by assumption)
                | exact Gt.ok_pick rfl (by assumption) (by rw [if_pos rfl]; assumption)
                | (exact ⟨fun h => absurd (show Value.bool false = Value.bool true from h.symm.trans (by assumption)) (by intro h; cases h), fun _ => trivial⟩)
                | (exact ⟨fun h => absurd (show Value.bool true = Value.bool false from h.symm.trans (by assumption)) (by intro h; cases h), fun _ => trivial⟩)
                | (exact ⟨fun h => absurd (show Value.bool true = undef from h.symm.trans (by assumption)) (by intro h; simp [undef] at h), fun _ => trivial⟩)
                | (exact Gt.ok_call (f := 10) rfl #[] (by kernel_rfl) (by simp) ((answers_any _).mono fun e w6 h => ⟨_, h.1, h.2, rfl⟩))
                | (exact Gt.ok_call (f := 16) rfl #[.pointer (some ⟨z, 0, none⟩)] (by kernel_rfl) (by simp [*]) ((HLD.out w5 hg').mono fun e w6 h => by obtain ⟨A6, c6, h1, h2, h3⟩ := h; exact ⟨_, h1, h3, A6, c6, rfl, h2⟩))
                | (exact Gt.ok_call (f := 20) rfl #[.pointer (some ⟨z, 0, none⟩)] (by kernel_rfl) (by simp [*]) ((HCL.out w5 hg').mono fun e w6 h => ⟨_, h.1, h.2, rfl⟩))
                | (rename_i h6 _
                   obtain ⟨A6, c6, e6, hI6⟩ := h6
                   have k5 := conv_load hI6 HN3.out
                   rw [← HS3.out] at k5
                   exact Gt.ok_convert rfl e6 k5 rfl)
                | (exact Gt.ok_convert rfl (by assumption) (HCV.out w5 hg') rfl)
                | (refine Gt.ok_run ?_ rfl
                   simp only [execOp, *]
                   go_simp
                   done))
            · intro a w5 hg
              have hg' : Below w9.heap.size w9 w5 := hg
              simp only [Gt.Pre, Gt.tys, List.getD_cons_zero, List.getD_cons_succ, Gt.Is]
              intro h0 h1 h2 h3 h4 h5 h6 h7 h8 h9 h10 h11 h12 h13 h14 h15 h16 h17 h18 h19 h20 h21 h22 h23 h24 h25 h26 h27 h28
              obtain ⟨A6, c6, e6, _⟩ := h16
              show K _ _
              refine hK _ _ ?_
              simp only [Gt.puts, List.foldl_cons, List.foldl_nil, h0, h1, h2, h3, h4, h5, h6, h7, h8, h9, h10, h11, h12, h13, h14, h15, h17, h18, h19, h20, h21, h22, h23, h24, h25, h26, h27, h28, e6]
              simp only [Act.put, List.setIfInBounds_toArray, List.set_cons_zero, List.set_cons_succ]
              go_wp2
              go_ret
              exact ⟨rfl, HB9.out.trans (hg'.mono HB9.out.size)⟩
        · have hev0 : (ev == 0) = false := by simpa using hev
          clear hev
          go_wp2_with fail
          refine HL6.out.mono ?_
          rintro e w7 ⟨A7, c7, rfl, hi7, hb7⟩
          obtain ⟨n7, hn7⟩ : ∃ n7, n7 = Kp.length := ⟨_, rfl⟩
          rw [← hn7]
          have hcv7 := conv_load hi7 hn7
          rw [← HSG.out] at hcv7
          have hq7 : Sq w7 z p g r ⟨-1, false, u6⟩ Kp := HQ6.out.below hb7 (Nat.le_refl _)
          have HB7 := Lib.hid (HB6.out.trans (hb7.mono HB6.out.size))
          have HQ7 := Lib.hid hq7
          have HCL7 := Lib.hid (sq_clean z p g r Kp ⟨-1, false, u6⟩ w7 hq7 rfl)
          clear hi7 hb7 hn7 hq7 HL6 HQ6 HB6
          go_wp2_with fail
          refine HCL7.out.mono ?_
          rintro e w8 ⟨rfl, hb8⟩
          have hq8 : Sq w8 z p g r ⟨-1, false, u6⟩ Kp := HQ7.out.below hb8 (Nat.le_refl _)
          have HQ8 := Lib.hid hq8
          have HB8 := Lib.hid (HB7.out.trans (hb8.mono HB7.out.size))
          have HD8 := Lib.hid (sq_down z p g r Kp ⟨-1, false, u6⟩ w8 hq8)
          clear hb8 hq8 hcv7 HCL7 HQ7 HB7
          go_wp2_with fail
          refine HD8.out.mono ?_
          rintro e w8b ⟨rfl, hw8⟩
          subst hw8
          by_cases ht3 : r < tk n3
          · have HS9 := Lib.hid (sq_big z p g r Kp ⟨-1, false, u6⟩ A3 n3 c3 w8b HQ8.out ht3 (by have := HC3.out; have := HI3.out.cap; have := HN3.out; omega))
            go_wp2_with fail
            refine HS9.out.mono ?_
            rintro e w9 ⟨rfl, hb9⟩
            have hq9 : Sq w9 z p g r ⟨-1, false, u6⟩ Kp := HQ8.out.below hb9 (Nat.le_refl _)
            have HB9 := Lib.hid (HB8.out.trans (hb9.mono HB8.out.size))
            have HLD := Lib.hid (show ∀ w5, Below w9.heap.size w9 w5 → Calls Try.prog 16 #[.pointer (some ⟨z, 0, none⟩)] w5 fun e w' => ∃ A c, e = .returned (.slice A nk c) ∧ In w' w'.heap.size A c Kp ∧ Below w5.heap.size w5 w' from fun w5 hg => by
              rw [HNK.out]; exact sq_load z p g r _ _ w5 (hq9.below hg (Nat.le_refl _)))
            have HCL := Lib.hid (show ∀ w5, Below w9.heap.size w9 w5 → Calls Try.prog 20 #[.pointer (some ⟨z, 0, none⟩)] w5 fun e w' => e = .returned (.bool true) ∧ Below w5.heap.size w5 w' from fun w5 hg => sq_clean z p g r _ _ w5 (hq9.below hg (Nat.le_refl _)) rfl)
            clear hb9 hq9 HS9 HQ8 HB8
            go_wp2
            rename_i K hK
            refine Gt.regionA [Gt.Is (.bool true), Gt.Is (.bool true), Gt.Is (.int .i64 7), Gt.Is (.bool true), Gt.Is (.bool true), Gt.Is (.pointer (some ⟨z, 0, none⟩)), LdIs nk Kp, Gt.Is (.string σ), Gt.Is (.string σ), Gt.Is (.bool true), Gt.Is (.bool true), Gt.Is (.bool true), Gt.Is undef, Gt.Is undef, Gt.Is undef, Gt.Is undef, Gt.Is undef, Gt.Is undef, Gt.Is undef, Gt.Is undef, Gt.Is undef, Gt.Is undef, Gt.Is (.bool true), Gt.Is (.bool true), Gt.Is (.bool true), Gt.Is (.pointer (some ⟨z, 0, none⟩)), Gt.Is (.bool true), Gt.Is (.bool true), Gt.Is (.bool true)] 107
              [⟨[], [], none⟩, ⟨[(0, 79)], [], none⟩, ⟨[(1, 80)], [14], some (80, true)⟩, ⟨[(1, 80), (2, 81)], [], some (80, true)⟩, ⟨[(1, 80), (3, 82)], [], some (80, true)⟩, ⟨[(4, 83)], [11], some (83, true)⟩, ⟨[(4, 83), (5, 84)], [], some (83, true)⟩, ⟨[(4, 83), (6, 85)], [], some (83, true)⟩, ⟨[(4, 83)], [13], some (83, true)⟩, ⟨[(4, 83), (7, 86), (8, 87)], [], some (83, true)⟩, ⟨[(1, 80), (4, 83), (9, 88)], [], some (80, true)⟩, ⟨[(1, 80), (10, 89)], [], some (80, true)⟩, ⟨[(11, 90)], [14], some (90, false)⟩, ⟨[(11, 90), (12, 91)], [], some (90, false)⟩, ⟨[(11, 90), (13, 92)], [], some (90, false)⟩, ⟨[(14, 93)], [11], some (93, true)⟩, ⟨[(14, 93), (15, 94)], [], some (93, true)⟩, ⟨[(14, 93), (16, 95)], [], some (93, true)⟩, ⟨[(14, 93)], [3], some (93, true)⟩, ⟨[(14, 93), (18, 97)], [], some (93, true)⟩, ⟨[(14, 93), (17, 96), (19, 98)], [], some (93, true)⟩, ⟨[(11, 90), (14, 93), (20, 99)], [], some (90, false)⟩, ⟨[(1, 80), (11, 90), (21, 100)], [], some (80, true)⟩, ⟨[(1, 80), (22, 101)], [], none⟩, ⟨[(23, 102)], [], none⟩, ⟨[(24, 103)], [11], some (103, true)⟩, ⟨[(24, 103), (25, 104)], [], some (103, true)⟩, ⟨[(24, 103), (26, 105)], [], none⟩, ⟨[(27, 106)], [], none⟩]
              [(0, 79), (1, 80), (2, 81), (3, 82), (4, 83), (5, 84), (6, 85), (7, 86), (8, 87), (9, 88), (10, 89), (11, 90), (12, 91), (13, 92), (14, 93), (15, 94), (16, 95), (17, 96), (18, 97), (19, 98), (20, 99), (21, 100), (22, 101), (23, 102), (24, 103), (25, 104), (26, 105), (27, 106), (28, 10)] (by kernel_rfl) (by kernel_rfl) (by kernel_rfl) (by kernel_rfl) ?_ ?_ ?_
            · simp only [Gt.Monos]
              repeat' apply And.intro
              all_goals (first | exact trivial | exact Gt.Is.mono _ | exact LdIs.mono _ _)
            · simp only [Gt.Obs]
              repeat' apply And.intro
              all_goals try exact trivial
              all_goals (
                intro a w5 hg
                have hg' : Below w9.heap.size w9 w5 := hg
                simp only [Gt.Pre, Gt.Kept, Gt.Guarded, Gt.tys, List.getD_cons_zero, List.getD_cons_succ, Gt.Is, Nat.zero_add, Nat.reduceAdd]
                intros
                try (refine ⟨fun _ => ?_, fun hne => absurd (by assumption) hne⟩))
              all_goals (first
                | exact Gt.ok_move rfl (by assumption)
                | exact Gt.ok_assign rfl (by assumption)
                | exact Gt.ok_pick rfl (by assumption) (by rw [if_pos rfl]; assumption)
                | (exact ⟨fun h => absurd (show Value.bool false = Value.bool true from h.symm.trans (by assumption)) (by intro h; cases h), fun _ => trivial⟩)
                | (exact ⟨fun h => absurd (show Value.bool true = Value.bool false from h.symm.trans (by assumption)) (by intro h; cases h), fun _ => trivial⟩)
                | (exact ⟨fun h => absurd (show Value.bool true = undef from h.symm.trans (by assumption)) (by intro h; simp [undef] at h), fun _ => trivial⟩)
                | (exact Gt.ok_call (f := 10) rfl #[] (by kernel_rfl) (by simp) ((answers_any _).mono fun e w6 h => ⟨_, h.1, h.2, rfl⟩))
                | (exact Gt.ok_call (f := 16) rfl #[.pointer (some ⟨z, 0, none⟩)] (by kernel_rfl) (by simp [*]) ((HLD.out w5 hg').mono fun e w6 h => by obtain ⟨A6, c6, h1, h2, h3⟩ := h; exact ⟨_, h1, h3, A6, c6, rfl, h2⟩))
                | (exact Gt.ok_call (f := 20) rfl #[.pointer (some ⟨z, 0, none⟩)] (by kernel_rfl) (by simp [*]) ((HCL.out w5 hg').mono fun e w6 h => ⟨_, h.1, h.2, rfl⟩))
                | (rename_i h6 _
                   obtain ⟨A6, c6, e6, hI6⟩ := h6
                   have k5 := conv_load hI6 HNK.out
                   rw [← HSG.out] at k5
                   exact Gt.ok_convert rfl e6 k5 rfl)
                | (refine Gt.ok_run ?_ rfl
                   simp only [execOp, *]
                   go_simp
                   done))
            · intro a w5 hg
              have hg' : Below w9.heap.size w9 w5 := hg
              simp only [Gt.Pre, Gt.tys, List.getD_cons_zero, List.getD_cons_succ, Gt.Is]
              intro h0 h1 h2 h3 h4 h5 h6 h7 h8 h9 h10 h11 h12 h13 h14 h15 h16 h17 h18 h19 h20 h21 h22 h23 h24 h25 h26 h27 h28
              obtain ⟨A6, c6, e6, _⟩ := h6
              show K _ _
              refine hK _ _ ?_
              simp only [Gt.puts, List.foldl_cons, List.foldl_nil, h0, h1, h2, h3, h4, h5, h7, h8, h9, h10, h11, h12, h13, h14, h15, h16, h17, h18, h19, h20, h21, h22, h23, h24, h25, h26, h27, h28, e6]
              simp only [Act.put, List.setIfInBounds_toArray, List.set_cons_zero, List.set_cons_succ]
              go_wp2
              go_ret
              exact ⟨rfl, HB9.out.trans (hg'.mono HB9.out.size)⟩
          · have hI8 : In w8b w.heap.size A3 c3 l3 := HI3.out.below HB8.out
            have HS9 := Lib.hid (sq_free z p g r w.heap.size u6 _ Kp l3 A3 n3 c3 w8b HQ8.out hI8 (fun o hne => ⟨in_no hI8 HZ.out hne o, in_no hI8 HP.out hne o, in_no hI8 HG.out hne o⟩) HN3.out (by omega) (by have := HU8.out; omega) rfl)
            clear hI8
            go_wp2_with fail
            refine HS9.out.mono ?_
            rintro e w9 ⟨rfl, hq9, hk9⟩
            have HB9 := Lib.hid (HB8.out.trans (hk9.below HB8.out.size HZ.out HP.out HG.out))
            have HLD := Lib.hid (show ∀ w5, Below w9.heap.size w9 w5 → Calls Try.prog 16 #[.pointer (some ⟨z, 0, none⟩)] w5 fun e w' => ∃ A c, e = .returned (.slice A n3 c) ∧ In w' w'.heap.size A c l3 ∧ Below w5.heap.size w5 w' from fun w5 hg => by
              rw [HN3.out]; exact sq_load z p g r _ _ w5 (hq9.below hg (Nat.le_refl _)))
            have HCL := Lib.hid (show ∀ w5, Below w9.heap.size w9 w5 → Calls Try.prog 20 #[.pointer (some ⟨z, 0, none⟩)] w5 fun e w' => e = .returned (.bool true) ∧ Below w5.heap.size w5 w' from fun w5 hg => sq_clean z p g r _ _ w5 (hq9.below hg (Nat.le_refl _)) rfl)
            have HCV := Lib.hid (show ∀ w5, Below w9.heap.size w9 w5 → (convert 28 9 (.slice A3 n3 c3)).run Try.prog w5 = .ok (.string σ3) w5 from fun w5 hg => by
              have h2 := conv_sl (P := Try.prog) (HI3.out.below (HB9.out.trans (hg.mono HB9.out.size))).sl Try.underlying28 Try.underlying5 Try.underlying9 c3
              rw [← HN3.out, ← HS3.out] at h2
              exact h2)
            clear hk9 hq9 HS9 HQ8 HB8
            go_wp2
            rename_i K hK
            refine Gt.regionA [Gt.Is (.bool true), Gt.Is (.bool true), Gt.Is (.int .i64 0), Gt.Is (.bool false), Gt.Is (.bool false), Gt.Is undef, Gt.Is undef, Gt.Is undef, Gt.Is undef, Gt.Is undef, Gt.Is (.bool false), Gt.Is (.bool false), Gt.Is (.int .i64 0), Gt.Is (.bool true), Gt.Is (.bool true), Gt.Is (.pointer (some ⟨z, 0, none⟩)), LdIs n3 l3, Gt.Is (.string σ3), Gt.Is (.slice A3 n3 c3), Gt.Is (.string σ3), Gt.Is (.bool true), Gt.Is (.bool true), Gt.Is (.bool true), Gt.Is (.bool true), Gt.Is (.bool true), Gt.Is (.pointer (some ⟨z, 0, none⟩)), Gt.Is (.bool true), Gt.Is (.bool true), Gt.Is (.bool true)] 107
              [⟨[], [], none⟩, ⟨[(0, 79)], [], none⟩, ⟨[(1, 80)], [14], some (80, true)⟩, ⟨[(1, 80), (2, 81)], [], some (80, true)⟩, ⟨[(1, 80), (3, 82)], [], some (80, true)⟩, ⟨[(4, 83)], [11], some (83, true)⟩, ⟨[(4, 83), (5, 84)], [], some (83, true)⟩, ⟨[(4, 83), (6, 85)], [], some (83, true)⟩, ⟨[(4, 83)], [13], some (83, true)⟩, ⟨[(4, 83), (7, 86), (8, 87)], [], some (83, true)⟩, ⟨[(1, 80), (4, 83), (9, 88)], [], some (80, true)⟩, ⟨[(1, 80), (10, 89)], [], some (80, true)⟩, ⟨[(11, 90)], [14], some (90, false)⟩, ⟨[(11, 90), (12, 91)], [], some (90, false)⟩, ⟨[(11, 90), (13, 92)], [], some (90, false)⟩, ⟨[(14, 93)], [11], some (93, true)⟩, ⟨[(14, 93), (15, 94)], [], some (93, true)⟩, ⟨[(14, 93), (16, 95)], [], some (93, true)⟩, ⟨[(14, 93)], [3], some (93, true)⟩, ⟨[(14, 93), (18, 97)], [], some (93, true)⟩, ⟨[(14, 93), (17, 96), (19, 98)], [], some (93, true)⟩, ⟨[(11, 90), (14, 93), (20, 99)], [], some (90, false)⟩, ⟨[(1, 80), (11, 90), (21, 100)], [], some (80, true)⟩, ⟨[(1, 80), (22, 101)], [], none⟩, ⟨[(23, 102)], [], none⟩, ⟨[(24, 103)], [11], some (103, true)⟩, ⟨[(24, 103), (25, 104)], [], some (103, true)⟩, ⟨[(24, 103), (26, 105)], [], none⟩, ⟨[(27, 106)], [], none⟩]
              [(0, 79), (1, 80), (2, 81), (3, 82), (4, 83), (5, 84), (6, 85), (7, 86), (8, 87), (9, 88), (10, 89), (11, 90), (12, 91), (13, 92), (14, 93), (15, 94), (16, 95), (17, 96), (18, 97), (19, 98), (20, 99), (21, 100), (22, 101), (23, 102), (24, 103), (25, 104), (26, 105), (27, 106), (28, 10)] (by kernel_rfl) (by kernel_rfl) (by kernel_rfl) (by kernel_rfl) ?_ ?_ ?_
            · simp only [Gt.Monos]
              repeat' apply And.intro
              all_goals (first | exact trivial | exact Gt.Is.mono _ | exact LdIs.mono _ _)
            · simp only [Gt.Obs]
              repeat' apply And.intro
              all_goals try exact trivial
              all_goals (
                intro a w5 hg
                have hg' : Below w9.heap.size w9 w5 := hg
                simp only [Gt.Pre, Gt.Kept, Gt.Guarded, Gt.tys, List.getD_cons_zero, List.getD_cons_succ, Gt.Is, Nat.zero_add, Nat.reduceAdd]
                intros
                try (refine ⟨fun _ => ?_, fun hne => absurd (by assumption) hne⟩))
              all_goals (first
                | exact Gt.ok_move rfl (by assumption)
                | exact Gt.ok_assign rfl (by assumption)
                | exact Gt.ok_pick rfl (by assumption) (by rw [if_pos rfl]; assumption)
                | (exact ⟨fun h => absurd (show Value.bool false = Value.bool true from h.symm.trans (by assumption)) (by intro h; cases h), fun _ => trivial⟩)
                | (exact ⟨fun h => absurd (show Value.bool true = Value.bool false from h.symm.trans (by assumption)) (by intro h; cases h), fun _ => trivial⟩)
                | (exact ⟨fun h => absurd (show Value.bool true = undef from h.symm.trans (by assumption)) (by intro h; simp [undef] at h), fun _ => trivial⟩)
                | (exact Gt.ok_call (f := 10) rfl #[] (by kernel_rfl) (by simp) ((answers_any _).mono fun e w6 h => ⟨_, h.1, h.2, rfl⟩))
                | (exact Gt.ok_call (f := 16) rfl #[.pointer (some ⟨z, 0, none⟩)] (by kernel_rfl) (by simp [*]) ((HLD.out w5 hg').mono fun e w6 h => by obtain ⟨A6, c6, h1, h2, h3⟩ := h; exact ⟨_, h1, h3, A6, c6, rfl, h2⟩))
                | (exact Gt.ok_call (f := 20) rfl #[.pointer (some ⟨z, 0, none⟩)] (by kernel_rfl) (by simp [*]) ((HCL.out w5 hg').mono fun e w6 h => ⟨_, h.1, h.2, rfl⟩))
                | (rename_i h6 _
                   obtain ⟨A6, c6, e6, hI6⟩ := h6
                   have k5 := conv_load hI6 HN3.out
                   rw [← HS3.out] at k5
                   exact Gt.ok_convert rfl e6 k5 rfl)
                | (exact Gt.ok_convert rfl (by assumption) (HCV.out w5 hg') rfl)
                | (refine Gt.ok_run ?_ rfl
                   simp only [execOp, *]
                   go_simp
                   done))
            · intro a w5 hg
              have hg' : Below w9.heap.size w9 w5 := hg
              simp only [Gt.Pre, Gt.tys, List.getD_cons_zero, List.getD_cons_succ, Gt.Is]
              intro h0 h1 h2 h3 h4 h5 h6 h7 h8 h9 h10 h11 h12 h13 h14 h15 h16 h17 h18 h19 h20 h21 h22 h23 h24 h25 h26 h27 h28
              obtain ⟨A6, c6, e6, _⟩ := h16
              show K _ _
              refine hK _ _ ?_
              simp only [Gt.puts, List.foldl_cons, List.foldl_nil, h0, h1, h2, h3, h4, h5, h6, h7, h8, h9, h10, h11, h12, h13, h14, h15, h17, h18, h19, h20, h21, h22, h23, h24, h25, h26, h27, h28, e6]
              simp only [Act.put, List.setIfInBounds_toArray, List.set_cons_zero, List.set_cons_succ]
              go_wp2
              go_ret
              exact ⟨rfl, HB9.out.trans (hg'.mono HB9.out.size)⟩
theorem walk (a0 : Int) (A1 : Option Addr) (c1 : Nat) (l1 : List Nat) (A2 : Option Addr) (c2 : Nat) (l2 : List Nat) (A3 : Option Addr) (c3 : Nat) (l3 : List Nat) (a4 : Int) (w : World) (_w0 : (Lit.int .i64 a0).wf = true) (w1 : In w w.heap.size A1 c1 l1) (s1 : c1 ≤ 140737488351232) (w2 : In w w.heap.size A2 c2 l2) (s2 : c2 ≤ 140737488351232) (w3 : In w w.heap.size A3 c3 l3) (s3 : c3 ≤ 140737488351232) (w4 : (Lit.int .u8 a4).wf = true) :
    Calls Try.prog 5 #[.int .i64 a0, .slice A1 l1.length c1, .slice A2 l2.length c2, .slice A3 l3.length c3, .int .u8 a4] w fun e w' => e = .returned (.bool true) ∧ Below w.heap.size w w' := by
  obtain ⟨h0, h1⟩ := bounds_u8 w4
  obtain ⟨f, rfl⟩ := Int.eq_ofNat_of_zero_le h0
  exact walk_nat a0 A1 c1 l1 A2 c2 l2 A3 c3 l3 f (by omega) w w1 s1 w2 s2 w3 s3

set_option maxRecDepth 100000 in
theorem lifted (os : Os) (started : os.Started) (H : Type) (enc : TypeId × Value → H) :
    ReturnsInHanded {} Try.checked os 5 .any (Rows.slotCutsSpec.pre6 enc Try.prog Try.f5 Rows.slotCutsRow.domain false) (Rows.slotCutsSpec.post enc Try.prog Try.f5 false true false false) := by
  refine returnsInHanded_of_change_sized (C := Try.checked) own started (by kernel_rfl) Try.func5
    (ChangeSpec.witness6 (enc := enc) (C := Try.checked) false ⟨#[], #[.int .i64 0, .slice none 0 0, .slice none 0 0, .slice none 0 0, .int .u8 0], []⟩ 8 (by kernel_rfl) (by kernel_rfl) (by kernel_rfl) (by kernel_rfl)) ?_
  intro W base args ds gs before hval0 hW _hcnd hsz0 _
  have hval : ∀ (j : Nat) t v, Try.f5.params[j]? = some t → args[j]? = some v → Value.okWide Try.prog W .any base t v := hval0
  have hW' := hW
  obtain ⟨p, q, hA0, hV, rfl, _hfz, _hnd⟩ := hW
  have hA : DataW.TrodAll enc Try.prog W 0 (fun _ => true) true Try.f5.params.toList args.toList ds p := hA0
  have hsz : (DataW.weightsEach Try.prog (Try.f5.params.toList ++ Rows.slotCutsSpec.plain.varTypes Try.prog) (ds ++ gs)).all (· ≤ reachBytes) = true := hsz0
  rw [Try.params5] at hA hval hsz
  obtain ⟨v0, vs0, d0, ds0, p0, q0, hargs, rfl, rfl, h0, r0⟩ := trodAll_cons hA
  obtain ⟨v1, vs1, d1, ds1, p1, q1, rfl, rfl, rfl, h1, r1⟩ := trodAll_cons r0
  obtain ⟨v2, vs2, d2, ds2, p2, q2, rfl, rfl, rfl, h2, r2⟩ := trodAll_cons r1
  obtain ⟨v3, vs3, d3, ds3, p3, q3, rfl, rfl, rfl, h3, r3⟩ := trodAll_cons r2
  obtain ⟨v4, vs4, d4, ds4, p4, q4, rfl, rfl, rfl, h4, r4⟩ := trodAll_cons r3
  obtain ⟨rfl, rfl, rfl⟩ := trodAll_nil r4
  obtain rfl : args = #[v0, v1, v2, v3, v4] := by cases args; simp_all
  obtain ⟨rfl, rfl⟩ := trodVars_none hV
  obtain ⟨a0, rfl, rfl, rfl, w0⟩ := open_int Try.underlying3 (hval 0 3 v0 rfl rfl) h0
  have k1 := h1
  have lt1 : ∀ x ∈ p1, x.block < W.heap.size := by obtain ⟨m, hm⟩ := k1; exact DataW.trod_lt m _ _ _ hm
  obtain ⟨A1, c1, l1, rfl, w1, sz1⟩ := open_bytes Try.underlying28 Try.underlying5 (by kernel_rfl) (hval 1 28 v1 rfl rfl) h1
  have s1 := sized_bytes hsz (j := 1) (t := 28) (e := 5) rfl rfl Try.underlying28 (by kernel_rfl) sz1
  have k2 := h2
  have lt2 : ∀ x ∈ p2, x.block < W.heap.size := by obtain ⟨m, hm⟩ := k2; exact DataW.trod_lt m _ _ _ hm
  obtain ⟨A2, c2, l2, rfl, w2, sz2⟩ := open_bytes Try.underlying28 Try.underlying5 (by kernel_rfl) (hval 2 28 v2 rfl rfl) h2
  have s2 := sized_bytes hsz (j := 2) (t := 28) (e := 5) rfl rfl Try.underlying28 (by kernel_rfl) sz2
  have k3 := h3
  have lt3 : ∀ x ∈ p3, x.block < W.heap.size := by obtain ⟨m, hm⟩ := k3; exact DataW.trod_lt m _ _ _ hm
  obtain ⟨A3, c3, l3, rfl, w3, sz3⟩ := open_bytes Try.underlying28 Try.underlying5 (by kernel_rfl) (hval 3 28 v3 rfl rfl) h3
  have s3 := sized_bytes hsz (j := 3) (t := 28) (e := 5) rfl rfl Try.underlying28 (by kernel_rfl) sz3
  obtain ⟨a4, rfl, rfl, rfl, w4⟩ := open_int Try.underlying5 (hval 4 5 v4 rfl rfl) h4
  clear hA0 hval0 hsz0 hsz
  refine (walk a0 A1 c1 l1 A2 c2 l2 A3 c3 l3 a4 W w0 w1 s1 w2 s2 w3 s3 w4).mono fun e W' ⟨he, bel⟩ => ?_
  subst he
  exact ⟨_, rfl, _, _, _, [], _, [], hW', trodAll_mk1 (shut_bool Try.underlying4 _), (trodAll_cons_mk (shut_int Try.underlying3 w0) (trodAll_cons_mk (Below.trod laidOut (by kernel_rfl) (of_decide_eq_true (by kernel_rfl)) k1 bel lt1) (trodAll_cons_mk (Below.trod laidOut (by kernel_rfl) (of_decide_eq_true (by kernel_rfl)) k2 bel lt2) (trodAll_cons_mk (Below.trod laidOut (by kernel_rfl) (of_decide_eq_true (by kernel_rfl)) k3 bel lt3) (trodAll_cons_mk (shut_int Try.underlying5 w4) trodAll_mk0))))), rfl, bel.frame _, fun h => by cases h⟩

theorem over : Rows.slotCutsRow.holds Try.pinned (OpenSpec.ofChange Rows.slotCutsSpec) :=
  OpenClaim.holds_of_wide 5 Try.f5 rfl rfl rfl rfl rfl rfl rfl ⟨rfl, rfl, rfl, rfl, rfl⟩ rfl rfl rfl rfl rfl (by kernel_rfl) Try.func5 (by kernel_rfl)
    (of_decide_eq_true (by kernel_rfl)) (by unfold Func.isWrapper; first | (rw [if_pos (by decide +kernel)]; kernel_rfl) | (rw [if_neg (by decide +kernel)]; exact ⟨rfl, rfl⟩))
    (fun os started H enc _ => lifted os started H enc)

end Go.Proofs.Ytijbpafmokbnaaa.slotCuts
namespace Go.Proofs.Ytijbpafmokbnaaa
/-- The statement. -/
theorem slotCuts_holds : Rows.SlotCutsSaid := slotCuts.over
#print axioms slotCuts_holds
end Go.Proofs.Ytijbpafmokbnaaa

