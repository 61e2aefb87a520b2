/- For every input DiskFuse returns true, and every argument reads behind the call as it did before: no condition. -/
import Derived.Test.YtcbgpichkjcgnaaRows
import Derived.ProofKit
import Derived.OpenShut
import Derived.SizedLaws
import Derived.ChangeOld
import Derived.Carry
import Derived.Test.YtcbgpichkjcgnaaLawb
import Derived.Test.YtcbgpichkjcgnaaDkf
import Derived.Test.YtcbgpichkjcgnaaGty
namespace Go.Proofs.Ytcbgpichkjcgnaa.diskFuse
open Go.ChangeShapes Go.WideShapes Go.ChangeAt Go.RowKit Go.Shelf Gw Pol

theorem own : ownKnob Try.prog.godebug = none := by kernel_rfl
theorem laidOut : laidOutB Try.prog = true := by kernel_rfl
/-- A new row of 32 noughts. -/
def MkIs : Value → World → Prop := fun v w => ∃ A c, v = .slice A 32 c ∧ Sl w w.heap.size A z32
theorem MkIs.mono : Gt.Mono MkIs := by
  rintro v w w' ⟨A, c, rfl, h⟩ hg
  exact ⟨A, c, rfl, (h.below hg).more hg.size⟩
theorem MkIs.new (w : World) : MkIs (.slice (some ⟨w.heap.size, 0, none⟩) 32 32) (w.alloc (.cells (bys z32).toArray 5)) :=
  ⟨_, _, rfl, by rw [World.size_alloc]; exact sl_z32 w⟩
/-- While it is written. -/
def FRel (w : World) (p g f : Nat) (L b : List Nat) (v6 v7 : Value) (wr : World) : Prop := ∃ (i : Nat), v7 = .int .i64 (i : Int) ∧ i ≤ 300 ∧ Below w.heap.size w wr ∧
  ((i ≤ f ∧ v6 = .int .i64 (i : Int) ∧ Dk wr p g 300 (fill L b i) false true (f - i) i) ∨ (f < i ∧ v6 = .int .i64 (f : Int) ∧ Dk wr p g 300 (fill L b f) true true 0 f))
set_option maxRecDepth 100000 in
set_option maxHeartbeats 2000000 in
theorem walk_nat (f : Nat) (hf : f < 256) (A1 : Option Addr) (c1 : Nat) (l1 : List Nat) (w : World) (w1 : In w w.heap.size A1 c1 l1) :
    Calls Try.prog 6 #[.int .u8 (f : Int), .slice A1 l1.length c1] w fun e w' => e = .returned (.bool true) ∧ Below w.heap.size w w' := by
  obtain ⟨n0, hn0⟩ : ∃ n0, n0 = l1.length := ⟨_, rfl⟩
  rw [← hn0]
  by_cases h32 : n0 = 32
  · have HL := Lib.hid (hn0.symm.trans h32)
    subst h32
    have HI := Lib.hid w1
    clear w1 hn0
    have hwf : IntKind.i64.wrap (f : Int) = (f : Int) := by rw [IntKind.wrap_i64]; omega
    go_enter Try.func6, Try.ntmps6
    go_wp2_with fail
    refine (dnew_m 300 300 rfl (by omega) w).mono ?_
    rintro e w1 ⟨p, g, L, rfl, hd1, hL, hp, hg, hb1⟩
    have HP := Lib.hid hp
    have HG := Lib.hid hg
    have HLL := Lib.hid hL
    have HB1 := Lib.hid hb1
    have HF := Lib.hid (dfuse_any p g 300 L false false 0 0 (f : Int) w1 hd1)
    rw [Int.toNat_natCast] at HF
    clear hd1 hp hg hb1 hL
    go_wp2_with fail
    refine HF.out.mono ?_
    rintro e w2 ⟨rfl, hd2, hk2⟩
    have HB2 := Lib.hid (HB1.out.trans (hk2.below HB1.out.size HP.out HG.out))
    have HD2 := Lib.hid hd2
    clear hd2 hk2 HF HB1
    go_wp2
    go_loopw [6, 7] (FRel w p g f L l1) (fun _ i _ => 300 - (intOf i).toNat)
    case atStart => exact ⟨0, rfl, by omega, HB2.out, .inl ⟨by omega, rfl, HD2.out⟩⟩
    case round =>
      obtain ⟨i, rfl, hi, hbel, hst⟩ := hrel
      clear HB2 HD2
      have hLn : L.length = 9600 := by rw [HLL.out]; simp
      by_cases hi3 : i < 300
      · rcases hst with ⟨hif, rfl, hd⟩ | ⟨hif, rfl, hd⟩
        · by_cases hlt : i < f
          · obtain ⟨q, hq⟩ : ∃ q, f - i = q + 1 := ⟨f - i - 1, by omega⟩
            rw [hq] at hd
            have hslr := (HI.out.below hbel).sl
            have HC := Lib.hid (dwrite_fuse p g 300 (fill L l1 i) q i i A1 c1 w.heap.size l1 wr hd hi3 hslr (by rintro o rfl; obtain ⟨x, b', off, _, _, e, hb', _⟩ := HI.out.sl.at_ (k := 0) (by rw [HL.out]; omega); injection e with e; injection e with e1; have := HP.out; omega) HL.out (by omega) (by omega))
            have HB := Lib.hid hbel
            have hi3' : (i : Int) < 300 := by omega
            have HQ := Lib.hid hq
            clear hd hslr hq hbel
            go_wp2_with fail
            refine HC.out.mono ?_
            rintro e w3 ⟨rfl, hd3, hk3⟩
            go_wp2
            go_roundw
            case rel => exact ⟨i + 1, by go_num, by omega, HB.out.trans (hk3.below HB.out.size HP.out HG.out), .inl ⟨by omega, by go_num, by have e : f - (i + 1) = q := by { have := HQ.out; omega }; rw [e]; exact hd3⟩⟩
            case measure => simp [intOf]; omega
          · obtain rfl : i = f := by omega
            rw [Nat.sub_self] at hd
            have HC := Lib.hid (dwrite_goes p g 300 (fill L l1 i) false i i A1 c1 wr hd hi3)
            have HB := Lib.hid hbel
            have hi3' : (i : Int) < 300 := by omega
            clear hd hbel
            go_wp2_with fail
            refine HC.out.mono ?_
            rintro e w3 ⟨rfl, hd3, hk3⟩
            go_wp2
            go_roundw
            case rel => exact ⟨i + 1, by go_num, by omega, HB.out.trans (hk3.below HB.out.size HP.out HG.out), .inr ⟨by omega, rfl, hd3⟩⟩
            case measure => simp [intOf]; omega
        · have HC := Lib.hid (dwrite_goes p g 300 (fill L l1 f) true f i A1 c1 wr hd hi3)
          have HB := Lib.hid hbel
          have hi3' : (i : Int) < 300 := by omega
          clear hd hbel
          go_wp2_with fail
          refine HC.out.mono ?_
          rintro e w3 ⟨rfl, hd3, hk3⟩
          go_wp2
          go_roundw
          case rel => exact ⟨i + 1, by go_num, by omega, HB.out.trans (hk3.below HB.out.size HP.out HG.out), .inr ⟨by omega, rfl, hd3⟩⟩
          case measure => simp [intOf]; omega
      · obtain rfl : i = 300 := by omega
        rcases hst with ⟨hif, _, _⟩ | ⟨hif, rfl, hd⟩
        · omega
        · have HB := Lib.hid hbel
          have HPF := Lib.hid (show piece (fill L l1 f) f = z32 by rw [fill_hi HL.out f f (Nat.le_refl _) (by omega), HLL.out]; exact piece_noughts (by omega))
          have HP0 := Lib.hid (show f ≠ 0 → piece (fill L l1 f) 0 = l1 from fun h => fill_lo HL.out f 0 (by omega) (by omega))
          have HRX := Lib.hid (dread_yes p g 300 (fill L l1 f) true true 0 f f wr hd (by omega))
          have HD := Lib.hid hd
          clear hd hbel hif hi hi3 hLn
          go_wp2_with fail
          refine HRX.out.mono ?_
          rintro e w5 ⟨rx, rfl, hbx, hrx, hb5⟩
          have hd5 : Dk w5 p g 300 (fill L l1 f) true true 0 f := Bxs.below HD.out hb5 (Nat.le_refl _)
          rw [HPF.out] at hbx
          have HBX := Lib.hid hbx
          have HB5 := Lib.hid (HB.out.trans (hb5.mono HB.out.size))
          have HRY := Lib.hid (dread_yes p g 300 (fill L l1 f) true true 0 f 0 w5 hd5 (by omega))
          have HD5 := Lib.hid hd5
          clear hbx hrx hb5 hd5 HRX HD HB
          go_wp2_with fail
          refine HRY.out.mono ?_
          rintro e w6 ⟨ry, rfl, hby, hry, hb6⟩
          have hd6 : Dk w6 p g 300 (fill L l1 f) true true 0 f := Bxs.below HD5.out hb6 (Nat.le_refl _)
          have hbx6 := HBX.out.keep (hb6.block rx HBX.out.lt)
          have HB6 := Lib.hid (HB5.out.trans (hb6.mono HB5.out.size))
          obtain ⟨σz, hσz⟩ : ∃ σ, σ = str z32 := ⟨_, rfl⟩
          obtain ⟨σb, hσb⟩ : ∃ σ, σ = str l1 := ⟨_, rfl⟩
          have HSZ := Lib.hid hσz
          have HDN := Lib.hid (show ∀ w5, Below w6.heap.size w6 w5 → Calls Try.prog 17 #[.pointer (some ⟨p, 0, none⟩)] w5 fun e w' => e = .returned (.bool true) ∧ w' = w5 from fun w5 hg => ddown_any p g 300 (fill L l1 f) true true 0 f w5 (Bxs.below hd6 hg (Nat.le_refl _)))
          have HWR := Lib.hid (show ∀ w5, Below w6.heap.size w6 w5 → Calls Try.prog 18 #[.pointer (some ⟨p, 0, none⟩)] w5 fun e w' => e = .returned (.int .i64 (f : Int)) ∧ w' = w5 from fun w5 hg => dwrites_any p g 300 (fill L l1 f) true true 0 f w5 (Bxs.below hd6 hg (Nat.le_refl _)))
          have HCX := Lib.hid (show ∀ w5, Below w6.heap.size w6 w5 → (convert 28 9 (.slice (some ⟨rx, 0, none⟩) 32 32)).run Try.prog w5 = .ok (.string σz) w5 from fun w5 hg => by
            have h := conv_sl (P := Try.prog) ((hbx6.keep (hg.block rx hbx6.lt)).sl z32_bb 0 32) Try.underlying28 Try.underlying5 Try.underlying9 32
            rw [List.drop_zero, List.take_of_length_le (Nat.le_of_eq z32_len), ← hσz, z32_len] at h
            exact h)
          by_cases hf0 : f = 0
          · subst hf0
            have hwf2 : ((0 : Int) == 0) = true := rfl
            have hw00 : IntKind.i64.wrap (0 : Int) = 0 := by rw [IntKind.wrap_i64]; omega
            clear hd6 hbx6 hby hry hb6 hσz hσb HRY HD5 HB5 HBX HPF HP0 hf hwf
            go_wp2
            rename_i K hK
            refine Gt.regionA [Gt.Is (.bool true), Gt.Is (.bool true), Gt.Is (.int .i64 0), Gt.Is (.int .u8 0), Gt.Is (.int .i64 0), Gt.Is (.bool true), Gt.Is (.bool true), Gt.Is (.bool true), Gt.Is (.pointer (some ⟨p, 0, none⟩)), Gt.Is (.bool true), Gt.Is (.bool true), Gt.Is (.bool true), Gt.Is (.pointer (some ⟨p, 0, none⟩)), Gt.Is (.int .i64 0), Gt.Is (.int .i64 0), Gt.Is (.bool true), Gt.Is (.bool true), Gt.Is (.bool true), Gt.Is (.slice (some ⟨rx, 0, none⟩) 32 32), Gt.Is (.string σz), MkIs, Gt.Is (.string σz), Gt.Is (.bool true), Gt.Is (.bool true), Gt.Is (.bool true), Gt.Is (.int .u8 0), Gt.Is (.bool true), Gt.Is (.bool true), Gt.Is undef, Gt.Is undef, Gt.Is undef, Gt.Is undef, Gt.Is undef, Gt.Is (.bool true), Gt.Is (.bool true), Gt.Is (.bool true)] 79
              [⟨[], [], none⟩, ⟨[(0, 44)], [], none⟩, ⟨[(1, 45)], [6], some (45, true)⟩, ⟨[(1, 45)], [0], some (45, true)⟩, ⟨[(1, 45), (3, 47)], [], some (45, true)⟩, ⟨[(1, 45), (2, 46), (4, 48)], [], some (45, true)⟩, ⟨[(1, 45), (5, 49)], [], none⟩, ⟨[(6, 50)], [], none⟩, ⟨[(7, 51)], [5], some (51, true)⟩, ⟨[(7, 51), (8, 52)], [], some (51, true)⟩, ⟨[(7, 51), (9, 53)], [], none⟩, ⟨[(10, 54)], [], none⟩, ⟨[(11, 55)], [5], some (55, true)⟩, ⟨[(11, 55), (12, 56)], [], some (55, true)⟩, ⟨[(11, 55)], [6], some (55, true)⟩, ⟨[(11, 55), (13, 57), (14, 58)], [], some (55, true)⟩, ⟨[(11, 55), (15, 59)], [], none⟩, ⟨[(16, 60)], [], none⟩, ⟨[(17, 61)], [8], some (61, true)⟩, ⟨[(17, 61), (18, 62)], [], some (61, true)⟩, ⟨[(17, 61)], [], some (61, true)⟩, ⟨[(17, 61), (20, 64)], [], some (61, true)⟩, ⟨[(17, 61), (19, 63), (21, 65)], [], some (61, true)⟩, ⟨[(17, 61), (22, 66)], [], none⟩, ⟨[(23, 67)], [], none⟩, ⟨[(24, 68)], [0], some (68, true)⟩, ⟨[(24, 68), (25, 69)], [], some (68, true)⟩, ⟨[(24, 68), (26, 70)], [], some (68, true)⟩, ⟨[(27, 71)], [10], some (71, false)⟩, ⟨[(27, 71), (28, 72)], [], some (71, false)⟩, ⟨[(27, 71)], [1], some (71, false)⟩, ⟨[(27, 71), (30, 74)], [], some (71, false)⟩, ⟨[(27, 71), (29, 73), (31, 75)], [], some (71, false)⟩, ⟨[(24, 68), (27, 71), (32, 76)], [], some (68, true)⟩, ⟨[(24, 68), (33, 77)], [], none⟩, ⟨[(34, 78)], [], none⟩]
              [(0, 44), (1, 45), (2, 46), (3, 47), (4, 48), (5, 49), (6, 50), (7, 51), (8, 52), (9, 53), (10, 54), (11, 55), (12, 56), (13, 57), (14, 58), (15, 59), (16, 60), (17, 61), (18, 62), (19, 63), (20, 64), (21, 65), (22, 66), (23, 67), (24, 68), (25, 69), (26, 70), (27, 71), (28, 72), (29, 73), (30, 74), (31, 75), (32, 76), (33, 77), (34, 78), (35, 4)] (by kernel_rfl) (by kernel_rfl) (by kernel_rfl) (by kernel_rfl) ?_ ?_ ?_
            · simp only [Gt.Monos]
              repeat' apply And.intro
              all_goals (first | exact trivial | exact Gt.Is.mono _ | exact MkIs.mono)
            · simp only [Gt.Obs]
              repeat' apply And.intro
              all_goals try exact trivial
              all_goals (
                intro a w5 hg
                have hg' : Below w6.heap.size w6 w5 := hg
                simp only [Gt.Pre, Gt.Kept, Gt.Guarded, Gt.tys, List.getD_cons_zero, List.getD_cons_succ, Gt.Is, Nat.zero_add, Nat.reduceAdd]
                intros
                try (refine ⟨fun _ => ?_, fun hne => absurd (by assumption) hne⟩))
              all_goals (first
                | exact Gt.ok_move rfl (by assumption)
                | exact Gt.ok_assign rfl (by assumption)
                | exact Gt.ok_pick rfl (by assumption) (by rw [if_pos rfl]; assumption)
                | (exact Gt.ok_call (f := 10) rfl #[] (by kernel_rfl) (by simp) ((answers_any _).mono fun e w6 h => ⟨_, h.1, h.2, rfl⟩))
                | (exact Gt.ok_call (f := 17) rfl #[.pointer (some ⟨p, 0, none⟩)] (by kernel_rfl) (by simp [*]) ((HDN.out w5 hg').mono fun e w6 h => ⟨_, h.1, by rw [h.2]; exact Gt.Gr.refl _, rfl⟩))
                | (exact Gt.ok_call (f := 18) rfl #[.pointer (some ⟨p, 0, none⟩)] (by kernel_rfl) (by simp [*]) ((HWR.out w5 hg').mono fun e w6 h => ⟨_, h.1, by rw [h.2]; exact Gt.Gr.refl _, rfl⟩))
                | (refine Gt.ok_runW (v := .slice (some ⟨w5.heap.size, 0, none⟩) 32 32) (w' := w5.alloc (.cells (bys z32).toArray 5)) ?_ ((Below.refl _ _).alloc (Nat.le_refl _) _) (MkIs.new w5)
                   have hmz := made_z
                   simp only [execOp, *]
                   go_simp
                   done)
                | (exact Gt.ok_convert rfl (by assumption) (HCX.out w5 hg') rfl)
                | (exact ⟨fun h => absurd (show Value.bool false = Value.bool true from h.symm.trans (by assumption)) (by intro h; cases h), fun _ => trivial⟩)
                | (rename_i h6 _
                   obtain ⟨A6, c6, e6, hI6⟩ := h6
                   have k5 := conv_sl (P := Try.prog) hI6 Try.underlying28 Try.underlying5 Try.underlying9 c6
                   rw [z32_len, ← HSZ.out] at k5
                   exact Gt.ok_convert rfl e6 k5 rfl)
                | (refine Gt.ok_run ?_ rfl
                   simp only [execOp, *]
                   go_simp
                   done))
            · intro a w5 hg
              have hg' : Below w6.heap.size w6 w5 := hg
              simp only [Gt.Pre, Gt.tys, List.getD_cons_zero, List.getD_cons_succ, Gt.Is]
              intro h0 h1 h2 h3 h4 h5 h6 h7 h8 h9 h10 h11 h12 h13 h14 h15 h16 h17 h18 h19 h20 h21 h22 h23 h24 h25 h26 h27 h28 h29 h30 h31 h32 h33 h34 h35
              obtain ⟨A6, c6, e20, _⟩ := h20
              show K _ _
              refine hK _ _ ?_
              simp only [Gt.puts, List.foldl_cons, List.foldl_nil, h0, h1, h2, h3, h4, h5, h6, h7, h8, h9, h10, h11, h12, h13, h14, h15, h16, h17, h18, h19, h21, h22, h23, h24, h25, h26, h27, h28, h29, h30, h31, h32, h33, h34, h35, e20]
              simp only [Act.put, List.setIfInBounds_toArray, List.set_cons_zero, List.set_cons_succ]
              go_wp2
              go_ret
              exact ⟨rfl, HB6.out.trans (hg'.mono HB6.out.size)⟩
          · have hby2 := hby
            rw [HP0.out hf0] at hby2
            have HCY := Lib.hid (show ∀ w5, Below w6.heap.size w6 w5 → (convert 28 9 (.slice (some ⟨ry, 0, none⟩) 32 32)).run Try.prog w5 = .ok (.string σb) w5 from fun w5 hg => by
              have h := conv_sl (P := Try.prog) ((hby2.keep (hg.block ry hby2.lt)).sl HI.out.bb 0 32) Try.underlying28 Try.underlying5 Try.underlying9 32
              rw [List.drop_zero, List.take_of_length_le (Nat.le_of_eq HL.out), ← hσb, HL.out] at h
              exact h)
            have HCB := Lib.hid (show ∀ w5, Below w6.heap.size w6 w5 → (convert 28 9 (.slice A1 32 c1)).run Try.prog w5 = .ok (.string σb) w5 from fun w5 hg => by
              have h := conv_sl (P := Try.prog) (HI.out.below (HB6.out.trans (hg.mono HB6.out.size))).sl Try.underlying28 Try.underlying5 Try.underlying9 c1
              rw [← hσb, HL.out] at h
              exact h)
            have hfne : ((f : Int) == 0) = false := by simp; omega
            clear hd6 hbx6 hby hby2 hry hb6 hσz hσb HRY HD5 HB5 HBX HPF HP0 hf hf0
            go_wp2
            rename_i K hK
            refine Gt.regionA [Gt.Is (.bool true), Gt.Is (.bool true), Gt.Is (.int .i64 (f : Int)), Gt.Is (.int .u8 (f : Int)), Gt.Is (.int .i64 (f : Int)), Gt.Is (.bool true), Gt.Is (.bool true), Gt.Is (.bool true), Gt.Is (.pointer (some ⟨p, 0, none⟩)), Gt.Is (.bool true), Gt.Is (.bool true), Gt.Is (.bool true), Gt.Is (.pointer (some ⟨p, 0, none⟩)), Gt.Is (.int .i64 (f : Int)), Gt.Is (.int .i64 (f : Int)), Gt.Is (.bool true), Gt.Is (.bool true), Gt.Is (.bool true), Gt.Is (.slice (some ⟨rx, 0, none⟩) 32 32), Gt.Is (.string σz), MkIs, Gt.Is (.string σz), Gt.Is (.bool true), Gt.Is (.bool true), Gt.Is (.bool true), Gt.Is (.int .u8 (f : Int)), Gt.Is (.bool false), Gt.Is (.bool false), Gt.Is (.slice (some ⟨ry, 0, none⟩) 32 32), Gt.Is (.string σb), Gt.Is (.slice A1 32 c1), Gt.Is (.string σb), Gt.Is (.bool true), Gt.Is (.bool true), Gt.Is (.bool true), Gt.Is (.bool true)] 79
              [⟨[], [], none⟩, ⟨[(0, 44)], [], none⟩, ⟨[(1, 45)], [6], some (45, true)⟩, ⟨[(1, 45)], [0], some (45, true)⟩, ⟨[(1, 45), (3, 47)], [], some (45, true)⟩, ⟨[(1, 45), (2, 46), (4, 48)], [], some (45, true)⟩, ⟨[(1, 45), (5, 49)], [], none⟩, ⟨[(6, 50)], [], none⟩, ⟨[(7, 51)], [5], some (51, true)⟩, ⟨[(7, 51), (8, 52)], [], some (51, true)⟩, ⟨[(7, 51), (9, 53)], [], none⟩, ⟨[(10, 54)], [], none⟩, ⟨[(11, 55)], [5], some (55, true)⟩, ⟨[(11, 55), (12, 56)], [], some (55, true)⟩, ⟨[(11, 55)], [6], some (55, true)⟩, ⟨[(11, 55), (13, 57), (14, 58)], [], some (55, true)⟩, ⟨[(11, 55), (15, 59)], [], none⟩, ⟨[(16, 60)], [], none⟩, ⟨[(17, 61)], [8], some (61, true)⟩, ⟨[(17, 61), (18, 62)], [], some (61, true)⟩, ⟨[(17, 61)], [], some (61, true)⟩, ⟨[(17, 61), (20, 64)], [], some (61, true)⟩, ⟨[(17, 61), (19, 63), (21, 65)], [], some (61, true)⟩, ⟨[(17, 61), (22, 66)], [], none⟩, ⟨[(23, 67)], [], none⟩, ⟨[(24, 68)], [0], some (68, true)⟩, ⟨[(24, 68), (25, 69)], [], some (68, true)⟩, ⟨[(24, 68), (26, 70)], [], some (68, true)⟩, ⟨[(27, 71)], [10], some (71, false)⟩, ⟨[(27, 71), (28, 72)], [], some (71, false)⟩, ⟨[(27, 71)], [1], some (71, false)⟩, ⟨[(27, 71), (30, 74)], [], some (71, false)⟩, ⟨[(27, 71), (29, 73), (31, 75)], [], some (71, false)⟩, ⟨[(24, 68), (27, 71), (32, 76)], [], some (68, true)⟩, ⟨[(24, 68), (33, 77)], [], none⟩, ⟨[(34, 78)], [], none⟩]
              [(0, 44), (1, 45), (2, 46), (3, 47), (4, 48), (5, 49), (6, 50), (7, 51), (8, 52), (9, 53), (10, 54), (11, 55), (12, 56), (13, 57), (14, 58), (15, 59), (16, 60), (17, 61), (18, 62), (19, 63), (20, 64), (21, 65), (22, 66), (23, 67), (24, 68), (25, 69), (26, 70), (27, 71), (28, 72), (29, 73), (30, 74), (31, 75), (32, 76), (33, 77), (34, 78), (35, 4)] (by kernel_rfl) (by kernel_rfl) (by kernel_rfl) (by kernel_rfl) ?_ ?_ ?_
            · simp only [Gt.Monos]
              repeat' apply And.intro
              all_goals (first | exact trivial | exact Gt.Is.mono _ | exact MkIs.mono)
            · simp only [Gt.Obs]
              repeat' apply And.intro
              all_goals try exact trivial
              all_goals (
                intro a w5 hg
                have hg' : Below w6.heap.size w6 w5 := hg
                simp only [Gt.Pre, Gt.Kept, Gt.Guarded, Gt.tys, List.getD_cons_zero, List.getD_cons_succ, Gt.Is, Nat.zero_add, Nat.reduceAdd]
                intros
                try (refine ⟨fun _ => ?_, fun hne => absurd (by assumption) hne⟩))
              all_goals (first
                | exact Gt.ok_move rfl (by assumption)
                | exact Gt.ok_assign rfl (by assumption)
                | exact Gt.ok_pick rfl (by assumption) (by rw [if_pos rfl]; assumption)
                | (exact Gt.ok_call (f := 10) rfl #[] (by kernel_rfl) (by simp) ((answers_any _).mono fun e w6 h => ⟨_, h.1, h.2, rfl⟩))
                | (exact Gt.ok_call (f := 17) rfl #[.pointer (some ⟨p, 0, none⟩)] (by kernel_rfl) (by simp [*]) ((HDN.out w5 hg').mono fun e w6 h => ⟨_, h.1, by rw [h.2]; exact Gt.Gr.refl _, rfl⟩))
                | (exact Gt.ok_call (f := 18) rfl #[.pointer (some ⟨p, 0, none⟩)] (by kernel_rfl) (by simp [*]) ((HWR.out w5 hg').mono fun e w6 h => ⟨_, h.1, by rw [h.2]; exact Gt.Gr.refl _, rfl⟩))
                | (refine Gt.ok_runW (v := .slice (some ⟨w5.heap.size, 0, none⟩) 32 32) (w' := w5.alloc (.cells (bys z32).toArray 5)) ?_ ((Below.refl _ _).alloc (Nat.le_refl _) _) (MkIs.new w5)
                   have hmz := made_z
                   simp only [execOp, *]
                   go_simp
                   done)
                | (exact Gt.ok_convert rfl (by assumption) (HCX.out w5 hg') rfl)
                | (exact Gt.ok_convert rfl (by assumption) (HCY.out w5 hg') rfl)
                | (exact Gt.ok_convert rfl (by assumption) (HCB.out w5 hg') rfl)
                | (rename_i h6 _
                   obtain ⟨A6, c6, e6, hI6⟩ := h6
                   have k5 := conv_sl (P := Try.prog) hI6 Try.underlying28 Try.underlying5 Try.underlying9 c6
                   rw [z32_len, ← HSZ.out] at k5
                   exact Gt.ok_convert rfl e6 k5 rfl)
                | (refine Gt.ok_run ?_ rfl
                   simp only [execOp, *]
                   go_simp
                   done))
            · intro a w5 hg
              have hg' : Below w6.heap.size w6 w5 := hg
              simp only [Gt.Pre, Gt.tys, List.getD_cons_zero, List.getD_cons_succ, Gt.Is]
              intro h0 h1 h2 h3 h4 h5 h6 h7 h8 h9 h10 h11 h12 h13 h14 h15 h16 h17 h18 h19 h20 h21 h22 h23 h24 h25 h26 h27 h28 h29 h30 h31 h32 h33 h34 h35
              obtain ⟨A6, c6, e20, _⟩ := h20
              show K _ _
              refine hK _ _ ?_
              simp only [Gt.puts, List.foldl_cons, List.foldl_nil, h0, h1, h2, h3, h4, h5, h6, h7, h8, h9, h10, h11, h12, h13, h14, h15, h16, h17, h18, h19, h21, h22, h23, h24, h25, h26, h27, h28, h29, h30, h31, h32, h33, h34, h35, e20]
              simp only [Act.put, List.setIfInBounds_toArray, List.set_cons_zero, List.set_cons_succ]
              go_wp2
              go_ret
              exact ⟨rfl, HB6.out.trans (hg'.mono HB6.out.size)⟩
  · have hne : ((n0 : Int) != 32) = true := by simp; omega
    clear h32 w1 hn0
    go_enter Try.func6, Try.ntmps6
    go_wp2_with fail
    refine (answers_any w).mono ?_
    rintro e w1 ⟨rfl, hb1⟩
    have HB1 := Lib.hid hb1
    clear hb1
    go_wp2
    go_ret
    exact ⟨rfl, HB1.out⟩
theorem walk (a0 : Int) (A1 : Option Addr) (c1 : Nat) (l1 : List Nat) (w : World) (w0 : (Lit.int .u8 a0).wf = true) (w1 : In w w.heap.size A1 c1 l1) (_s1 : c1 ≤ 140737488351232) :
    Calls Try.prog 6 #[.int .u8 a0, .slice A1 l1.length c1] w fun e w' => e = .returned (.bool true) ∧ Below w.heap.size w w' := by
  obtain ⟨h0, h1⟩ := bounds_u8 w0
  obtain ⟨f, rfl⟩ := Int.eq_ofNat_of_zero_le h0
  exact walk_nat f (by omega) A1 c1 l1 w w1

set_option maxRecDepth 100000 in
theorem lifted (os : Os) (started : os.Started) (H : Type) (enc : TypeId × Value → H) :
    ReturnsInHanded {} Try.checked os 6 .any (Rows.diskFuseSpec.pre6 enc Try.prog Try.f6 Rows.diskFuseRow.domain false) (Rows.diskFuseSpec.post enc Try.prog Try.f6 false true false false) := by
  refine returnsInHanded_of_change_sized (C := Try.checked) own started (by kernel_rfl) Try.func6
    (ChangeSpec.witness6 (enc := enc) (C := Try.checked) false ⟨#[], #[.int .u8 0, .slice none 0 0], []⟩ 8 (by kernel_rfl) (by kernel_rfl) (by kernel_rfl) (by kernel_rfl)) ?_
  intro W base args ds gs before hval0 hW _hcnd hsz0 _
  have hval : ∀ (j : Nat) t v, Try.f6.params[j]? = some t → args[j]? = some v → Value.okWide Try.prog W .any base t v := hval0
  have hW' := hW
  obtain ⟨p, q, hA0, hV, rfl, _hfz, _hnd⟩ := hW
  have hA : DataW.TrodAll enc Try.prog W 0 (fun _ => true) true Try.f6.params.toList args.toList ds p := hA0
  have hsz : (DataW.weightsEach Try.prog (Try.f6.params.toList ++ Rows.diskFuseSpec.plain.varTypes Try.prog) (ds ++ gs)).all (· ≤ reachBytes) = true := hsz0
  rw [Try.params6] at hA hval hsz
  obtain ⟨v0, vs0, d0, ds0, p0, q0, hargs, rfl, rfl, h0, r0⟩ := trodAll_cons hA
  obtain ⟨v1, vs1, d1, ds1, p1, q1, rfl, rfl, rfl, h1, r1⟩ := trodAll_cons r0
  obtain ⟨rfl, rfl, rfl⟩ := trodAll_nil r1
  obtain rfl : args = #[v0, v1] := by cases args; simp_all
  obtain ⟨rfl, rfl⟩ := trodVars_none hV
  obtain ⟨a0, rfl, rfl, rfl, w0⟩ := open_int Try.underlying5 (hval 0 5 v0 rfl rfl) h0
  have k1 := h1
  have lt1 : ∀ x ∈ p1, x.block < W.heap.size := by obtain ⟨m, hm⟩ := k1; exact DataW.trod_lt m _ _ _ hm
  obtain ⟨A1, c1, l1, rfl, w1, sz1⟩ := open_bytes Try.underlying28 Try.underlying5 (by kernel_rfl) (hval 1 28 v1 rfl rfl) h1
  have s1 := sized_bytes hsz (j := 1) (t := 28) (e := 5) rfl rfl Try.underlying28 (by kernel_rfl) sz1
  clear hA0 hval0 hsz0 hsz
  refine (walk a0 A1 c1 l1 W w0 w1 s1).mono fun e W' ⟨he, bel⟩ => ?_
  subst he
  exact ⟨_, rfl, _, _, _, [], _, [], hW', trodAll_mk1 (shut_bool Try.underlying4 _), (trodAll_cons_mk (shut_int Try.underlying5 w0) (trodAll_cons_mk (Below.trod laidOut (by kernel_rfl) (of_decide_eq_true (by kernel_rfl)) k1 bel lt1) trodAll_mk0)), rfl, bel.frame _, fun h => by cases h⟩

theorem over : Rows.diskFuseRow.holds Try.pinned (OpenSpec.ofChange Rows.diskFuseSpec) :=
  OpenClaim.holds_of_wide 6 Try.f6 rfl rfl rfl rfl rfl rfl rfl ⟨rfl, rfl, rfl, rfl, rfl⟩ rfl rfl rfl rfl rfl (by kernel_rfl) Try.func6 (by kernel_rfl)
    (of_decide_eq_true (by kernel_rfl)) (by unfold Func.isWrapper; first | (rw [if_pos (by decide +kernel)]; kernel_rfl) | (rw [if_neg (by decide +kernel)]; exact ⟨rfl, rfl⟩))
    (fun os started H enc _ => lifted os started H enc)

end Go.Proofs.Ytcbgpichkjcgnaa.diskFuse
namespace Go.Proofs.Ytcbgpichkjcgnaa
/-- The statement. -/
theorem diskFuse_holds : Rows.DiskFuseSaid := diskFuse.over
#print axioms diskFuse_holds
end Go.Proofs.Ytcbgpichkjcgnaa

