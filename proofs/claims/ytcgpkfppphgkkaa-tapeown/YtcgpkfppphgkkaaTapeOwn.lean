/- For every input TapeOwn returns true, and every argument reads behind the call as it did before: no condition. -/
import Derived.Test.YtcgpkfppphgkkaaRows
import Derived.ProofKit
import Derived.OpenShut
import Derived.SizedLaws
import Derived.ChangeOld
import Derived.Carry
import Derived.Test.YtcgpkfppphgkkaaLawb
import Derived.Test.YtcgpkfppphgkkaaTpe
import Derived.Test.YtcgpkfppphgkkaaGty
namespace Go.Proofs.Ytcgpkfppphgkkaa.tapeOwn
open Go.ChangeShapes Go.WideShapes Go.ChangeAt Go.RowKit Go.Shelf Gw Pol

theorem own : ownKnob Try.prog.godebug = none := by kernel_rfl
theorem laidOut : laidOutB Try.prog = true := by kernel_rfl
set_option maxRecDepth 100000 in
set_option maxHeartbeats 4000000 in
theorem walk_lo (A0 : Option Addr) (c0 : Nat) (l0 : List Nat) (n N k : Nat) (w : World) (w0 : In w w.heap.size A0 c0 l0) (hb1 : n < 256) (hN : N = l0.length) (hl : N ≤ 1000) (hkN : k ≤ N) (hcase : n ≤ N) (hkk : k = n) :
    Calls Try.prog 4 #[.slice A0 N c0, .int .u8 (n : Int)] w fun e w' => e = .returned (.bool true) ∧ Below w.heap.size w w' := by
  obtain ⟨i0, hi0, hz0, hz1, hz2⟩ := info_parts pbyte_info
  have HN := Lib.hid hN
  clear hN
  obtain ⟨r, hr⟩ : ∃ r, r = N - k := ⟨_, rfl⟩
  have HC := Lib.hid (show (n : Int) = (k : Int) by omega)
  have hwn : IntKind.i64.wrap (n : Int) = (n : Int) := by rw [IntKind.wrap_i64]; omega
  have hwr : IntKind.i64.wrap ((N : Int) - (k : Int)) = (r : Int) := by rw [IntKind.wrap_i64]; omega
  have HNK := Lib.hid (show N = k + r by omega)
  have HRL := Lib.hid (show r = (l0.drop k).length by rw [List.length_drop, ← HN.out]; exact hr)
  have HTK := Lib.hid (show k = (l0.take k).length by rw [List.length_take, ← HN.out]; omega)
  have HT1 := Lib.hid (show l0.drop k = (l0.drop k).take r by rw [List.take_of_length_le (by rw [← HRL.out]; exact Nat.le_refl _)])
  have HT2 := Lib.hid (show [] = (l0.drop k).drop r by rw [List.drop_of_length_le (by rw [← HRL.out]; exact Nat.le_refl _)])
  obtain ⟨σ, hσ⟩ : ∃ σ, σ = str (l0.drop k) := ⟨_, rfl⟩
  have HSG := Lib.hid hσ
  obtain ⟨AT, cT, hsl, hST0⟩ := slice_l_any w0 HN.out hkN
  rw [← hr] at hsl
  have HSL := Lib.hid hsl
  clear hkk hr hσ hsl
  obtain ⟨p, hp⟩ : ∃ p, p = w.heap.size := ⟨_, rfl⟩
  have hplo : w.heap.size ≤ p := by omega
  go_enter Try.func4, Try.ntmps4
  go_wp2_with fail
  refine (tnew' w).mono ?_
  rintro e w1 ⟨rfl, ht1, hb1', hz1'⟩
  rw [← hp] at ht1 ⊢
  have hs1 := hb1'.size
  have hplt1 : p < w1.heap.size := by omega
  have HSL1 := Lib.hid (((w0.below hb1').sl.more hs1).alloc (Nat.le_refl _) (.cells #[] 5))
  have hnil := w0.none_
  clear hp
  go_wp2_with (first
    | (at_builtin; refine wpList_app rfl (.tmp 19) (.tmp 20) 25 rfl w1.heap.size 5 i0 _ Try.underlying25 hi0 hz0 hz1 hz2 rfl (some ⟨w1.heap.size, 0, none⟩) 0 0 [] rfl rfl (Own.lit0 w1 w1.heap.size 5 (Nat.le_refl _)) w1.heap.size A0 N c0 l0 rfl HN.out hnil HSL1.out (by rw [← HN.out]; simp; omega) (by simp) ?_
       intro Ab cb w2 hob hgr
       rw [List.nil_append] at hob
       rw [List.nil_append, ← HN.out]
       have hb2 := below_lit' (Below.refl w1.heap.size w1) (Nat.le_refl _) hgr
       have hs2 := hb2.size
       have ht2 := ht1.below hb2 (Nat.le_refl _)
       have hB2 := hb1'.trans (hb2.mono hs1)
       clear hgr hb2 ht1 hb1')
    | fail)
  refine (tadd' p p 0 Ab N cb l0 w2 ht2 HN.out hob.inn (by rw [← HN.out]; omega)).mono ?_
  rintro e w3 ⟨rfl, g, ht3, hg3, hk3⟩
  have hB3 := hB2.trans (hk3.below hB2.size hplo hplo)
  have hob3 := hob.k2 hk3 (hob.nb hplt1) (hob.nb hplt1)
  have hgb : ∀ o, Ab ≠ some ⟨g, o, none⟩ := by
    rcases hg3 with h | h
    · rw [h]; exact hob.nb hplt1
    · exact own_hi hob h
  have hglo : w.heap.size ≤ g := by rcases hg3 with h | h <;> omega
  clear hk3 hob ht2 hB2 hg3 HSL1
  go_wp2
  go_loopw [7] (fun i wr => ∃ (j : Nat) (l' : List Nat), j ≤ N ∧ i = .int .i64 (j : Int) ∧ N = l'.length ∧ Gw.Own wr w1.heap.size 5 Ab cb l' ∧ w3.grownBy wr (rb Ab)) (fun i _ => N - (intOf i).toNat)
  case atStart => exact ⟨0, _, Nat.zero_le _, rfl, HN.out, hob3, World.grownBy.refl _ _⟩
  case round =>
    obtain ⟨j, l', hj, rfl, hll, hown', hgw⟩ := hrel
    by_cases hjp : j < N
    · obtain ⟨g', hA', hg', hst⟩ := Own.store hown' (by omega : j < l'.length)
      subst hA'
      obtain ⟨x, b', off', hx, hxb, e', _, hcell⟩ := hown'.sl.at_ (by omega : j < l'.length)
      injection e' with e'
      injection e' with e1 e2
      subst e1 e2
      rw [Nat.zero_add] at hcell
      have hfr := Own.frozen hown' j
      have hxor : bits .xor .u8 (x : Int) 255 = ((x ^^^ 255 : Nat) : Int) := u8_xor_nat x 255 hxb (by omega)
      have H1 := Lib.hid (hst (x ^^^ 255) (Gf.xor_lt hxb (by omega)))
      have H2 := Lib.hid (grown_put (k := j) hgw (.int .u8 ((x ^^^ 255 : Nat) : Int)))
      have HL := Lib.hid hll
      clear hx hll hst
      go_wp2
      go_roundw
      case rel => exact ⟨j + 1, l'.set j (x ^^^ 255), by omega, by go_num, by rw [List.length_set]; exact HL.out, H1.out, H2.out⟩
      case measure => simp [intOf]; omega
    · obtain rfl : N = j := by omega
      clear hj hjp
      have ht4 := tp_grown ht3 hgw (rb_ne hown' (hown'.nb hplt1)) (rb_ne hown' hgb)
      have hB4 := hB3.trans (below_grown hgw hB3.size (fun q hq => Nat.le_trans hs1 (rb_lo hown' q hq)))
      have hs4 := hB4.size
      have hplt := ht4.lt
      have hglt := ht4.glt
      clear hgw hown' hll ht3 hB3 hgb
      obtain ⟨w4, hw4⟩ : ∃ w4, w4 = wr := ⟨_, rfl⟩
      rw [← hw4] at ht4 hB4 hs4 hplt hglt ⊢
      clear hw4
      go_wp2_with fail
      rw [HC.out]
      refine (ttake' p g 0 k k l0 (l0.take k) (l0.drop k) w4 ht4 (by rw [← HN.out]; exact hkN) (by omega) rfl rfl (by omega)).mono ?_
      rintro e w5 ⟨Ax, cx, rfl, hx5, ht5, hk5⟩
      have hB5 := hB4.trans (hk5.below hs4 hplo hglo)
      clear ht4 hB4 hk5
      go_wp2
      go_loopw [11] (fun i wr => ∃ (j : Nat) (l' : List Nat), j ≤ k ∧ i = .int .i64 (j : Int) ∧ k = l'.length ∧ Gw.Own wr w4.heap.size 5 Ax cx l' ∧ w5.grownBy wr (rb Ax)) (fun i _ => k - (intOf i).toNat)
      case atStart => exact ⟨0, _, Nat.zero_le _, rfl, HTK.out, hx5, World.grownBy.refl _ _⟩
      case round =>
        obtain ⟨j, l', hj, rfl, hll, hown', hgw⟩ := hrel
        by_cases hjp : j < k
        · obtain ⟨g', hA', hg', hst⟩ := Own.store hown' (by omega : j < l'.length)
          subst hA'
          obtain ⟨x, b', off', hx, hxb, e', _, hcell⟩ := hown'.sl.at_ (by omega : j < l'.length)
          injection e' with e'
          injection e' with e1 e2
          subst e1 e2
          rw [Nat.zero_add] at hcell
          have hfr := Own.frozen hown' j
          have hxor : bits .xor .u8 (x : Int) 255 = ((x ^^^ 255 : Nat) : Int) := u8_xor_nat x 255 hxb (by omega)
          have H1 := Lib.hid (hst (x ^^^ 255) (Gf.xor_lt hxb (by omega)))
          have H2 := Lib.hid (grown_put (k := j) hgw (.int .u8 ((x ^^^ 255 : Nat) : Int)))
          have HL := Lib.hid hll
          clear hx hll hst
          go_wp2
          go_roundw
          case rel => exact ⟨j + 1, l'.set j (x ^^^ 255), by omega, by go_num, by rw [List.length_set]; exact HL.out, H1.out, H2.out⟩
          case measure => simp [intOf]; omega
        · obtain rfl : k = j := by omega
          clear hj hjp
          have ht6 := tp_grown ht5 hgw (rb_ne hown' (hown'.nb hplt)) (rb_ne hown' (hown'.nb hglt))
          have hB6 := hB5.trans (below_grown hgw hB5.size (fun q hq => Nat.le_trans hs4 (rb_lo hown' q hq)))
          have hs6 := hB6.size
          clear hgw hown' hll ht5 hB5
          go_wp2_with fail
          refine (ttake' p g k r N (l0.drop k) (l0.drop k) [] wr ht6 (by rw [← HRL.out]; exact Nat.le_refl _) (by have := HNK.out; omega) HT1.out HT2.out HNK.out).mono ?_
          rintro e w7 ⟨Ay, cy, rfl, hy7, ht7, hk7⟩
          have hB7 := hB6.trans (hk7.below hs6 hplo hglo)
          have HB7 := Lib.hid hB7
          have HY := Lib.hid hy7
          have HST := Lib.hid ((hST0.below hB7).more hB7.size)
          clear hB6 hs6 ht6 ht7 hk7 hB7 hy7 hST0
          go_wp2
          rename_i K hK
          refine Gt.regionA [Gt.Is (.bool true), Gt.Is (.bool true), Gt.Is (.bool true), Gt.Is (.bool true), Gt.Is (.bool true), Gt.Is (.bool true), Gt.Is (.bool true), Gt.Is (.bool true), Gt.Is (.slice Ay r cy), Gt.Is (.string σ), Gt.Is (.slice A0 N c0), Gt.Is (.int .i64 (k : Int)), Gt.Is (.slice AT r cT), Gt.Is (.string σ), Gt.Is (.bool true), Gt.Is (.bool true), Gt.Is (.bool true)] 89
            [⟨[], [], none⟩, ⟨[(0, 73)], [], none⟩, ⟨[(1, 74)], [10], some (74, true)⟩, ⟨[(1, 74), (2, 75)], [], none⟩, ⟨[(3, 76)], [], none⟩, ⟨[(4, 77)], [13], some (77, true)⟩, ⟨[(4, 77), (5, 78)], [], none⟩, ⟨[(6, 79)], [], none⟩, ⟨[(7, 80)], [12], some (80, true)⟩, ⟨[(7, 80), (8, 81)], [], some (80, true)⟩, ⟨[(7, 80)], [0], some (80, true)⟩, ⟨[(7, 80)], [8], some (80, true)⟩, ⟨[(7, 80), (10, 83), (11, 84)], [], some (80, true)⟩, ⟨[(7, 80), (12, 85)], [], some (80, true)⟩, ⟨[(7, 80), (9, 82), (13, 86)], [], some (80, true)⟩, ⟨[(7, 80), (14, 87)], [], none⟩, ⟨[(15, 88)], [], none⟩]
            [(0, 73), (1, 74), (2, 75), (3, 76), (4, 77), (5, 78), (6, 79), (7, 80), (8, 81), (9, 82), (10, 83), (11, 84), (12, 85), (13, 86), (14, 87), (15, 88), (16, 4)] (by kernel_rfl) (by kernel_rfl) (by kernel_rfl) (by kernel_rfl) ?_ ?_ ?_
          · simp only [Gt.Monos]
            repeat' apply And.intro
            all_goals (first | exact trivial | exact Gt.Is.mono _)
          · simp only [Gt.Obs]
            repeat' apply And.intro
            all_goals try exact trivial
            all_goals (
              intro a w5 hg
              have hg' : Below w7.heap.size w7 w5 := hg
              simp only [Gt.Pre, Gt.Kept, Gt.Guarded, Gt.tys, List.getD_cons_zero, List.getD_cons_succ, Gt.Is, Nat.zero_add, Nat.reduceAdd]
              intros
              try (refine ⟨fun _ => ?_, fun hne => absurd (by assumption) hne⟩))
            all_goals (first
              | exact Gt.ok_move rfl (by assumption)
              | exact Gt.ok_assign rfl (by assumption)
              | exact Gt.ok_pick rfl (by assumption) (by rw [if_pos rfl]; assumption)
              | (exact Gt.ok_call (f := 12) rfl #[] (by kernel_rfl) (by simp) ((answers_any _).mono fun e w6 h => ⟨_, h.1, h.2, rfl⟩))
              | (have k5 := conv_n (HY.out.kept hg') HRL.out
                 rw [← HSG.out] at k5
                 exact Gt.ok_convert rfl (by assumption) k5 rfl)
              | (have k5 := conv_i (c := cT) (HST.out.below hg').sl HRL.out
                 rw [← HSG.out] at k5
                 exact Gt.ok_convert rfl (by assumption) k5 rfl)
              | (refine Gt.ok_run ?_ rfl
                 simp only [execOp, Option.map_some, Option.map_none, *]
                 have k5 := HSL.out w5
                 simp only [Sem.run_bind, k5, Result.andThen_ok, Sem.run_pure]
                 done)
              | (refine Gt.ok_run ?_ rfl
                 simp only [execOp, *]
                 go_simp
                 done))
          · intro a w5 hg
            have hg' : Below w7.heap.size w7 w5 := hg
            simp only [Gt.Pre, Gt.tys, List.getD_cons_zero, List.getD_cons_succ, Gt.Is]
            intro h0 h1 h2 h3 h4 h5 h6 h7 h8 h9 h10 h11 h12 h13 h14 h15 h16
            show K _ _
            refine hK _ _ ?_
            simp only [Gt.puts, List.foldl_cons, List.foldl_nil, h0, h1, h2, h3, h4, h5, h6, h7, h8, h9, h10, h11, h12, h13, h14, h15, h16]
            simp only [Act.put, List.setIfInBounds_toArray, List.set_cons_zero, List.set_cons_succ]
            go_wp2
            go_ret
            exact ⟨rfl, HB7.out.trans (hg'.mono HB7.out.size)⟩

set_option maxRecDepth 100000 in
set_option maxHeartbeats 4000000 in
theorem walk_hi (A0 : Option Addr) (c0 : Nat) (l0 : List Nat) (n N k : Nat) (w : World) (w0 : In w w.heap.size A0 c0 l0) (hb1 : n < 256) (hN : N = l0.length) (hl : N ≤ 1000) (hkN : k ≤ N) (hcase : N < n) (hkk : k = N) :
    Calls Try.prog 4 #[.slice A0 N c0, .int .u8 (n : Int)] w fun e w' => e = .returned (.bool true) ∧ Below w.heap.size w w' := by
  obtain ⟨i0, hi0, hz0, hz1, hz2⟩ := info_parts pbyte_info
  have HN := Lib.hid hN
  clear hN
  obtain ⟨r, hr⟩ : ∃ r, r = N - k := ⟨_, rfl⟩
  have HC := Lib.hid (show (N : Int) = (k : Int) by omega)
  have hwn : IntKind.i64.wrap (n : Int) = (n : Int) := by rw [IntKind.wrap_i64]; omega
  have hwr : IntKind.i64.wrap ((N : Int) - (k : Int)) = (r : Int) := by rw [IntKind.wrap_i64]; omega
  have HNK := Lib.hid (show N = k + r by omega)
  have HRL := Lib.hid (show r = (l0.drop k).length by rw [List.length_drop, ← HN.out]; exact hr)
  have HTK := Lib.hid (show k = (l0.take k).length by rw [List.length_take, ← HN.out]; omega)
  have HT1 := Lib.hid (show l0.drop k = (l0.drop k).take r by rw [List.take_of_length_le (by rw [← HRL.out]; exact Nat.le_refl _)])
  have HT2 := Lib.hid (show [] = (l0.drop k).drop r by rw [List.drop_of_length_le (by rw [← HRL.out]; exact Nat.le_refl _)])
  obtain ⟨σ, hσ⟩ : ∃ σ, σ = str (l0.drop k) := ⟨_, rfl⟩
  have HSG := Lib.hid hσ
  obtain ⟨AT, cT, hsl, hST0⟩ := slice_l_any w0 HN.out hkN
  rw [← hr] at hsl
  have HSL := Lib.hid hsl
  clear hkk hr hσ hsl
  obtain ⟨p, hp⟩ : ∃ p, p = w.heap.size := ⟨_, rfl⟩
  have hplo : w.heap.size ≤ p := by omega
  go_enter Try.func4, Try.ntmps4
  go_wp2_with fail
  refine (tnew' w).mono ?_
  rintro e w1 ⟨rfl, ht1, hb1', hz1'⟩
  rw [← hp] at ht1 ⊢
  have hs1 := hb1'.size
  have hplt1 : p < w1.heap.size := by omega
  have HSL1 := Lib.hid (((w0.below hb1').sl.more hs1).alloc (Nat.le_refl _) (.cells #[] 5))
  have hnil := w0.none_
  clear hp
  go_wp2_with (first
    | (at_builtin; refine wpList_app rfl (.tmp 19) (.tmp 20) 25 rfl w1.heap.size 5 i0 _ Try.underlying25 hi0 hz0 hz1 hz2 rfl (some ⟨w1.heap.size, 0, none⟩) 0 0 [] rfl rfl (Own.lit0 w1 w1.heap.size 5 (Nat.le_refl _)) w1.heap.size A0 N c0 l0 rfl HN.out hnil HSL1.out (by rw [← HN.out]; simp; omega) (by simp) ?_
       intro Ab cb w2 hob hgr
       rw [List.nil_append] at hob
       rw [List.nil_append, ← HN.out]
       have hb2 := below_lit' (Below.refl w1.heap.size w1) (Nat.le_refl _) hgr
       have hs2 := hb2.size
       have ht2 := ht1.below hb2 (Nat.le_refl _)
       have hB2 := hb1'.trans (hb2.mono hs1)
       clear hgr hb2 ht1 hb1')
    | fail)
  refine (tadd' p p 0 Ab N cb l0 w2 ht2 HN.out hob.inn (by rw [← HN.out]; omega)).mono ?_
  rintro e w3 ⟨rfl, g, ht3, hg3, hk3⟩
  have hB3 := hB2.trans (hk3.below hB2.size hplo hplo)
  have hob3 := hob.k2 hk3 (hob.nb hplt1) (hob.nb hplt1)
  have hgb : ∀ o, Ab ≠ some ⟨g, o, none⟩ := by
    rcases hg3 with h | h
    · rw [h]; exact hob.nb hplt1
    · exact own_hi hob h
  have hglo : w.heap.size ≤ g := by rcases hg3 with h | h <;> omega
  clear hk3 hob ht2 hB2 hg3 HSL1
  go_wp2
  go_loopw [7] (fun i wr => ∃ (j : Nat) (l' : List Nat), j ≤ N ∧ i = .int .i64 (j : Int) ∧ N = l'.length ∧ Gw.Own wr w1.heap.size 5 Ab cb l' ∧ w3.grownBy wr (rb Ab)) (fun i _ => N - (intOf i).toNat)
  case atStart => exact ⟨0, _, Nat.zero_le _, rfl, HN.out, hob3, World.grownBy.refl _ _⟩
  case round =>
    obtain ⟨j, l', hj, rfl, hll, hown', hgw⟩ := hrel
    by_cases hjp : j < N
    · obtain ⟨g', hA', hg', hst⟩ := Own.store hown' (by omega : j < l'.length)
      subst hA'
      obtain ⟨x, b', off', hx, hxb, e', _, hcell⟩ := hown'.sl.at_ (by omega : j < l'.length)
      injection e' with e'
      injection e' with e1 e2
      subst e1 e2
      rw [Nat.zero_add] at hcell
      have hfr := Own.frozen hown' j
      have hxor : bits .xor .u8 (x : Int) 255 = ((x ^^^ 255 : Nat) : Int) := u8_xor_nat x 255 hxb (by omega)
      have H1 := Lib.hid (hst (x ^^^ 255) (Gf.xor_lt hxb (by omega)))
      have H2 := Lib.hid (grown_put (k := j) hgw (.int .u8 ((x ^^^ 255 : Nat) : Int)))
      have HL := Lib.hid hll
      clear hx hll hst
      go_wp2
      go_roundw
      case rel => exact ⟨j + 1, l'.set j (x ^^^ 255), by omega, by go_num, by rw [List.length_set]; exact HL.out, H1.out, H2.out⟩
      case measure => simp [intOf]; omega
    · obtain rfl : N = j := by omega
      clear hj hjp
      have ht4 := tp_grown ht3 hgw (rb_ne hown' (hown'.nb hplt1)) (rb_ne hown' hgb)
      have hB4 := hB3.trans (below_grown hgw hB3.size (fun q hq => Nat.le_trans hs1 (rb_lo hown' q hq)))
      have hs4 := hB4.size
      have hplt := ht4.lt
      have hglt := ht4.glt
      clear hgw hown' hll ht3 hB3 hgb
      obtain ⟨w4, hw4⟩ : ∃ w4, w4 = wr := ⟨_, rfl⟩
      rw [← hw4] at ht4 hB4 hs4 hplt hglt ⊢
      clear hw4
      go_wp2_with fail
      rw [HC.out]
      refine (ttake' p g 0 k k l0 (l0.take k) (l0.drop k) w4 ht4 (by rw [← HN.out]; exact hkN) (by omega) rfl rfl (by omega)).mono ?_
      rintro e w5 ⟨Ax, cx, rfl, hx5, ht5, hk5⟩
      have hB5 := hB4.trans (hk5.below hs4 hplo hglo)
      clear ht4 hB4 hk5
      go_wp2
      go_loopw [11] (fun i wr => ∃ (j : Nat) (l' : List Nat), j ≤ k ∧ i = .int .i64 (j : Int) ∧ k = l'.length ∧ Gw.Own wr w4.heap.size 5 Ax cx l' ∧ w5.grownBy wr (rb Ax)) (fun i _ => k - (intOf i).toNat)
      case atStart => exact ⟨0, _, Nat.zero_le _, rfl, HTK.out, hx5, World.grownBy.refl _ _⟩
      case round =>
        obtain ⟨j, l', hj, rfl, hll, hown', hgw⟩ := hrel
        by_cases hjp : j < k
        · obtain ⟨g', hA', hg', hst⟩ := Own.store hown' (by omega : j < l'.length)
          subst hA'
          obtain ⟨x, b', off', hx, hxb, e', _, hcell⟩ := hown'.sl.at_ (by omega : j < l'.length)
          injection e' with e'
          injection e' with e1 e2
          subst e1 e2
          rw [Nat.zero_add] at hcell
          have hfr := Own.frozen hown' j
          have hxor : bits .xor .u8 (x : Int) 255 = ((x ^^^ 255 : Nat) : Int) := u8_xor_nat x 255 hxb (by omega)
          have H1 := Lib.hid (hst (x ^^^ 255) (Gf.xor_lt hxb (by omega)))
          have H2 := Lib.hid (grown_put (k := j) hgw (.int .u8 ((x ^^^ 255 : Nat) : Int)))
          have HL := Lib.hid hll
          clear hx hll hst
          go_wp2
          go_roundw
          case rel => exact ⟨j + 1, l'.set j (x ^^^ 255), by omega, by go_num, by rw [List.length_set]; exact HL.out, H1.out, H2.out⟩
          case measure => simp [intOf]; omega
        · obtain rfl : k = j := by omega
          clear hj hjp
          have ht6 := tp_grown ht5 hgw (rb_ne hown' (hown'.nb hplt)) (rb_ne hown' (hown'.nb hglt))
          have hB6 := hB5.trans (below_grown hgw hB5.size (fun q hq => Nat.le_trans hs4 (rb_lo hown' q hq)))
          have hs6 := hB6.size
          clear hgw hown' hll ht5 hB5
          go_wp2_with fail
          refine (ttake' p g k r N (l0.drop k) (l0.drop k) [] wr ht6 (by rw [← HRL.out]; exact Nat.le_refl _) (by have := HNK.out; omega) HT1.out HT2.out HNK.out).mono ?_
          rintro e w7 ⟨Ay, cy, rfl, hy7, ht7, hk7⟩
          have hB7 := hB6.trans (hk7.below hs6 hplo hglo)
          have HB7 := Lib.hid hB7
          have HY := Lib.hid hy7
          have HST := Lib.hid ((hST0.below hB7).more hB7.size)
          clear hB6 hs6 ht6 ht7 hk7 hB7 hy7 hST0
          go_wp2
          rename_i K hK
          refine Gt.regionA [Gt.Is (.bool true), Gt.Is (.bool true), Gt.Is (.bool true), Gt.Is (.bool true), Gt.Is (.bool true), Gt.Is (.bool true), Gt.Is (.bool true), Gt.Is (.bool true), Gt.Is (.slice Ay r cy), Gt.Is (.string σ), Gt.Is (.slice A0 N c0), Gt.Is (.int .i64 (k : Int)), Gt.Is (.slice AT r cT), Gt.Is (.string σ), Gt.Is (.bool true), Gt.Is (.bool true), Gt.Is (.bool true)] 89
            [⟨[], [], none⟩, ⟨[(0, 73)], [], none⟩, ⟨[(1, 74)], [10], some (74, true)⟩, ⟨[(1, 74), (2, 75)], [], none⟩, ⟨[(3, 76)], [], none⟩, ⟨[(4, 77)], [13], some (77, true)⟩, ⟨[(4, 77), (5, 78)], [], none⟩, ⟨[(6, 79)], [], none⟩, ⟨[(7, 80)], [12], some (80, true)⟩, ⟨[(7, 80), (8, 81)], [], some (80, true)⟩, ⟨[(7, 80)], [0], some (80, true)⟩, ⟨[(7, 80)], [8], some (80, true)⟩, ⟨[(7, 80), (10, 83), (11, 84)], [], some (80, true)⟩, ⟨[(7, 80), (12, 85)], [], some (80, true)⟩, ⟨[(7, 80), (9, 82), (13, 86)], [], some (80, true)⟩, ⟨[(7, 80), (14, 87)], [], none⟩, ⟨[(15, 88)], [], none⟩]
            [(0, 73), (1, 74), (2, 75), (3, 76), (4, 77), (5, 78), (6, 79), (7, 80), (8, 81), (9, 82), (10, 83), (11, 84), (12, 85), (13, 86), (14, 87), (15, 88), (16, 4)] (by kernel_rfl) (by kernel_rfl) (by kernel_rfl) (by kernel_rfl) ?_ ?_ ?_
          · simp only [Gt.Monos]
            repeat' apply And.intro
            all_goals (first | exact trivial | exact Gt.Is.mono _)
          · simp only [Gt.Obs]
            repeat' apply And.intro
            all_goals try exact trivial
            all_goals (
              intro a w5 hg
              have hg' : Below w7.heap.size w7 w5 := hg
              simp only [Gt.Pre, Gt.Kept, Gt.Guarded, Gt.tys, List.getD_cons_zero, List.getD_cons_succ, Gt.Is, Nat.zero_add, Nat.reduceAdd]
              intros
              try (refine ⟨fun _ => ?_, fun hne => absurd (by assumption) hne⟩))
            all_goals (first
              | exact Gt.ok_move rfl (by assumption)
              | exact Gt.ok_assign rfl (by assumption)
              | exact Gt.ok_pick rfl (by assumption) (by rw [if_pos rfl]; assumption)
              | (exact Gt.ok_call (f := 12) rfl #[] (by kernel_rfl) (by simp) ((answers_any _).mono fun e w6 h => ⟨_, h.1, h.2, rfl⟩))
              | (have k5 := conv_n (HY.out.kept hg') HRL.out
                 rw [← HSG.out] at k5
                 exact Gt.ok_convert rfl (by assumption) k5 rfl)
              | (have k5 := conv_i (c := cT) (HST.out.below hg').sl HRL.out
                 rw [← HSG.out] at k5
                 exact Gt.ok_convert rfl (by assumption) k5 rfl)
              | (refine Gt.ok_run ?_ rfl
                 simp only [execOp, Option.map_some, Option.map_none, *]
                 have k5 := HSL.out w5
                 simp only [Sem.run_bind, k5, Result.andThen_ok, Sem.run_pure]
                 done)
              | (refine Gt.ok_run ?_ rfl
                 simp only [execOp, *]
                 go_simp
                 done))
          · intro a w5 hg
            have hg' : Below w7.heap.size w7 w5 := hg
            simp only [Gt.Pre, Gt.tys, List.getD_cons_zero, List.getD_cons_succ, Gt.Is]
            intro h0 h1 h2 h3 h4 h5 h6 h7 h8 h9 h10 h11 h12 h13 h14 h15 h16
            show K _ _
            refine hK _ _ ?_
            simp only [Gt.puts, List.foldl_cons, List.foldl_nil, h0, h1, h2, h3, h4, h5, h6, h7, h8, h9, h10, h11, h12, h13, h14, h15, h16]
            simp only [Act.put, List.setIfInBounds_toArray, List.set_cons_zero, List.set_cons_succ]
            go_wp2
            go_ret
            exact ⟨rfl, HB7.out.trans (hg'.mono HB7.out.size)⟩

set_option maxRecDepth 100000 in
theorem walk (A0 : Option Addr) (c0 : Nat) (l0 : List Nat) (a1 : Int) (w : World) (w0 : In w w.heap.size A0 c0 l0) (_s0 : c0 ≤ 140737488351232) (w1' : (Lit.int .u8 a1).wf = true) :
    Calls Try.prog 4 #[.slice A0 l0.length c0, .int .u8 a1] w fun e w' => e = .returned (.bool true) ∧ Below w.heap.size w w' := by
  have hb1 := bounds_u8 w1'
  obtain ⟨n, rfl⟩ : ∃ n : Nat, a1 = n := ⟨a1.toNat, by omega⟩
  obtain ⟨N, hN⟩ : ∃ N, N = l0.length := ⟨_, rfl⟩
  rw [← hN]
  have HN := Lib.hid hN
  clear hN w1'
  by_cases hl : 1000 < N
  · go_enter Try.func4, Try.ntmps4
    go_wp2_with fail
    refine (answers_any w).mono ?_
    rintro e w2 ⟨rfl, hb⟩
    go_wp2
    go_ret
    exact ⟨rfl, hb⟩
  by_cases hn : n ≤ N
  · exact walk_lo A0 c0 l0 n N n w w0 (by omega) HN.out (by omega) hn hn rfl
  · exact walk_hi A0 c0 l0 n N N w w0 (by omega) HN.out (by omega) (Nat.le_refl _) (by omega) rfl

set_option maxRecDepth 100000 in
theorem lifted (os : Os) (started : os.Started) (H : Type) (enc : TypeId × Value → H) :
    ReturnsInHanded {} Try.checked os 4 .any (Rows.tapeOwnSpec.pre6 enc Try.prog Try.f4 Rows.tapeOwnRow.domain false) (Rows.tapeOwnSpec.post enc Try.prog Try.f4 false true false false) := by
  refine returnsInHanded_of_change_sized (C := Try.checked) own started (by kernel_rfl) Try.func4
    (ChangeSpec.witness6 (enc := enc) (C := Try.checked) false ⟨#[], #[.slice none 0 0, .int .u8 0], []⟩ 8 (by kernel_rfl) (by kernel_rfl) (by kernel_rfl) (by kernel_rfl)) ?_
  intro W base args ds gs before hval0 hW _hcnd hsz0 _
  have hval : ∀ (j : Nat) t v, Try.f4.params[j]? = some t → args[j]? = some v → Value.okWide Try.prog W .any base t v := hval0
  have hW' := hW
  obtain ⟨p, q, hA0, hV, rfl, _hfz, _hnd⟩ := hW
  have hA : DataW.TrodAll enc Try.prog W 0 (fun _ => true) true Try.f4.params.toList args.toList ds p := hA0
  have hsz : (DataW.weightsEach Try.prog (Try.f4.params.toList ++ Rows.tapeOwnSpec.plain.varTypes Try.prog) (ds ++ gs)).all (· ≤ reachBytes) = true := hsz0
  rw [Try.params4] at hA hval hsz
  obtain ⟨v0, vs0, d0, ds0, p0, q0, hargs, rfl, rfl, h0, r0⟩ := trodAll_cons hA
  obtain ⟨v1, vs1, d1, ds1, p1, q1, rfl, rfl, rfl, h1, r1⟩ := trodAll_cons r0
  obtain ⟨rfl, rfl, rfl⟩ := trodAll_nil r1
  obtain rfl : args = #[v0, v1] := by cases args; simp_all
  obtain ⟨rfl, rfl⟩ := trodVars_none hV
  have k0 := h0
  have lt0 : ∀ x ∈ p0, x.block < W.heap.size := by obtain ⟨m, hm⟩ := k0; exact DataW.trod_lt m _ _ _ hm
  obtain ⟨A0, c0, l0, rfl, w0, sz0⟩ := open_bytes Try.underlying25 Try.underlying5 (by kernel_rfl) (hval 0 25 v0 rfl rfl) h0
  have s0 := sized_bytes hsz (j := 0) (t := 25) (e := 5) rfl rfl Try.underlying25 (by kernel_rfl) sz0
  obtain ⟨a1, rfl, rfl, rfl, w1⟩ := open_int Try.underlying5 (hval 1 5 v1 rfl rfl) h1
  clear hA0 hval0 hsz0 hsz
  refine (walk A0 c0 l0 a1 W w0 s0 w1).mono fun e W' ⟨he, bel⟩ => ?_
  subst he
  exact ⟨_, rfl, _, _, _, [], _, [], hW', trodAll_mk1 (shut_bool Try.underlying4 _), (trodAll_cons_mk (Below.trod laidOut (by kernel_rfl) (of_decide_eq_true (by kernel_rfl)) k0 bel lt0) (trodAll_cons_mk (shut_int Try.underlying5 w1) trodAll_mk0)), rfl, bel.frame _, fun h => by cases h⟩

theorem over : Rows.tapeOwnRow.holds Try.pinned (OpenSpec.ofChange Rows.tapeOwnSpec) :=
  OpenClaim.holds_of_wide 4 Try.f4 rfl rfl rfl rfl rfl rfl rfl ⟨rfl, rfl, rfl, rfl, rfl⟩ rfl rfl rfl rfl rfl (by kernel_rfl) Try.func4 (by kernel_rfl)
    (of_decide_eq_true (by kernel_rfl)) (by unfold Func.isWrapper; first | (rw [if_pos (by decide +kernel)]; kernel_rfl) | (rw [if_neg (by decide +kernel)]; exact ⟨rfl, rfl⟩))
    (fun os started H enc _ => lifted os started H enc)

end Go.Proofs.Ytcgpkfppphgkkaa.tapeOwn
namespace Go.Proofs.Ytcgpkfppphgkkaa
/-- The statement. -/
theorem tapeOwn_holds : Rows.TapeOwnSaid := tapeOwn.over
#print axioms tapeOwn_holds
end Go.Proofs.Ytcgpkfppphgkkaa

