/- For every input StripeEnds returns true, and every argument reads behind the call as it did before, where what comes in is of bulk at most 1048576. -/
import Derived.Test.YtnpjncbdmgdjnaaRows
import Derived.ProofKit
import Derived.OpenShut
import Derived.SizedLaws
import Derived.ChangeOld
import Derived.Carry
import Derived.Test.YtnpjncbdmgdjnaaLawb
import Derived.Test.YtnpjncbdmgdjnaaBulk
import Derived.JoinedCond
import Derived.Test.YtnpjncbdmgdjnaaSta
import Derived.Test.YtnpjncbdmgdjnaaSsm
import Derived.Test.YtnpjncbdmgdjnaaSto
import Derived.Test.YtnpjncbdmgdjnaaSlr
import Derived.Test.YtnpjncbdmgdjnaaGty
import Derived.Test.YtnpjncbdmgdjnaaRsp
namespace Go.Proofs.Ytnpjncbdmgdjnaa.stripeEnds
open Go.ChangeShapes Go.WideShapes Go.ChangeAt Go.RowKit Go.Shelf Gw Pol

theorem own : ownKnob Try.prog.godebug = none := by kernel_rfl
theorem laidOut : laidOutB Try.prog = true := by kernel_rfl
set_option maxRecDepth 100000 in
set_option maxHeartbeats 4000000 in
theorem walk (A0 : Option Addr) (c0 : Nat) (l0 : List Nat) (a1 a2 : Int) (w : World) (w0 : In w w.heap.size A0 c0 l0) (s0 : c0 ≤ 1048576) (w1' : (Lit.int .u8 a1).wf = true) (w2' : (Lit.int .u8 a2).wf = true) :
    Calls Try.prog 7 #[.slice A0 l0.length c0, .int .u8 a1, .int .u8 a2] w fun e w' => e = .returned (.bool true) ∧ Below w.heap.size w w' := by
  obtain ⟨i0, hi0, hz0, hz1, hz2⟩ := info_parts pbyte_info
  have hb1 := bounds_u8 w1'
  have hb2 := bounds_u8 w2'
  obtain ⟨k, rfl⟩ : ∃ k : Nat, a1 = k := ⟨a1.toNat, by omega⟩
  obtain ⟨x, rfl⟩ : ∃ x : Nat, a2 = x := ⟨a2.toNat, by omega⟩
  clear w1' w2'
  by_cases hk0 : k = 0
  · subst hk0
    go_enter Try.func7, Try.ntmps7
    go_wp2_with fail
    refine (answers_any w).mono ?_
    rintro e w1 ⟨rfl, hb⟩
    go_wp2
    go_ret
    exact ⟨rfl, hb⟩
  have hkp : 0 < k := by omega
  have hcap := w0.cap
  have hxb : x < 256 := by omega
  obtain ⟨N, hN⟩ : ∃ N, N = l0.length := ⟨_, rfl⟩
  rw [← hN]
  have hNb : N ≤ 1048576 := by omega
  have hwk : IntKind.i64.wrap (k : Int) = (k : Int) := by rw [IntKind.wrap_i64]; omega
  have hkz : ((k : Int) == 0) = false := beq_eq_false_iff_ne.2 (by omega)
  obtain ⟨R, hR⟩ : ∃ R, R = Sp.cnt N k := ⟨_, rfl⟩
  have hRN : R ≤ N := by rw [hR]; exact Sp.cnt_le N k
  obtain ⟨M, hM⟩ : ∃ M, M = N + 1 := ⟨_, rfl⟩
  have hMl : M = (l0 ++ [x]).length := by rw [hM, hN]; simp
  obtain ⟨R2, hR2⟩ : ∃ R, R = Sp.cnt M k := ⟨_, rfl⟩
  have hRN2 : R2 ≤ M := by rw [hR2]; exact Sp.cnt_le M k
  have HN := Lib.hid hN
  have HML := Lib.hid hMl
  have HSP := Lib.hid (ssplit_any A0 c0 N k l0 w HN.out w0 (by omega) (by omega))
  rw [← hR] at HSP
  have HSP2 := Lib.hid (fun A c w h => ssplit_any A c M k (l0 ++ [x]) w HML.out h (by omega) (by omega))
  rw [← hR2] at HSP2
  have hnil := w0.none_
  have hRR : R2 = R + (if N % k = 0 then 1 else 0) := by rw [hR2, hR, hM]; exact Sp.cnt_more hkp
  have hR0 : R = 0 ↔ N = 0 := by rw [hR]; exact Sp.cnt_zero hkp
  have hlast : ∀ n, R = n + 1 → n * k < N ∧ N ≤ n * k + k := fun n h => by
    have h1 := (Sp.cnt_lt (n := N) (k := k) (i := n) hkp).1 (by omega)
    have h2 := Sp.cnt_all (n := N) hkp
    rw [← hR, h, Nat.succ_mul] at h2
    exact ⟨h1, h2⟩
  have HM := Lib.hid hM
  have HLAST := Lib.hid hlast
  have HRR := Lib.hid hRR
  have HR0 := Lib.hid hR0
  clear hN hcap hR hR2 hMl hM hRR hlast hR0 hk0
  go_enter Try.func7, Try.ntmps7
  go_wp2_with fail
  refine HSP.out.mono ?_
  rintro e w1 ⟨A1, c1, pa, cp, rfl, hC1⟩
  have hB1 := hC1.bel
  have hs1 := hB1.size
  have HM1 := Lib.hid hC1.min
  have hcap1 := hC1.min.cap
  have HSL1 := Lib.hid (((w0.below hB1).sl.more hs1).alloc (Nat.le_refl _) (.cells #[] 5))
  clear hC1
  go_wp2_with (first
    | (at_builtin; refine wpList_app rfl (.tmp 19) (.tmp 20) 22 rfl w1.heap.size 5 i0 _ Try.underlying22 hi0 hz0 hz1 hz2 rfl (some ⟨w1.heap.size, 0, none⟩) 0 0 [] rfl rfl (Own.lit0 w1 w1.heap.size 5 (Nat.le_refl _)) w1.heap.size A0 N c0 l0 rfl HN.out hnil HSL1.out (by rw [← HN.out]; simp; omega) (by simp) ?_
       intro Ab cb w2 hob hgr
       rw [List.nil_append] at hob
       rw [List.nil_append, ← HN.out]
       have hb2' := below_lit' (Below.refl w1.heap.size w1) (Nat.le_refl _) hgr
       clear hgr)
    | (at_builtin; refine wpList_app rfl (.tmp 21) (.tmp 23) 22 rfl w1.heap.size 5 i0 _ Try.underlying22 hi0 hz0 hz1 hz2 rfl Ab N cb l0 rfl HN.out (hob.alloc _) (w2.heap.size + 1) (some ⟨w2.heap.size, 0, none⟩) 1 1 [x] rfl rfl (fun h => by cases h) (Sl.one w2 5 x hxb) (by rw [← HN.out]; simp; omega) (by rw [World.size_alloc]; have := hb2'.size; omega) ?_
       intro Ad cd w3 hod hgr3
       rw [← HML.out]
       have hb3 := below_app hb2' hb2'.size hob hgr3
       clear hgr3 hob hb2')
    | fail)
  have hB3 := hB1.trans (hb3.mono hs1)
  refine (HSP2.out Ad cd w3 hod.inn).mono ?_
  rintro e w4 ⟨A2, c2, pa2, cp2, rfl, hC2⟩
  have hB4 := hB3.trans (hC2.bel.mono hB3.size)
  have HM2 := Lib.hid hC2.min
  have HM4 := Lib.hid (((((HM1.out.below hb3).more hb3.size).below hC2.bel).more hC2.bel.size))
  have hcap2 := hC2.min.cap
  have HB4 := Lib.hid hB4
  clear hB1 hB3 hb3 hod hC2 hB4 hs1 HM1 HSL1
  by_cases hRz : R = 0
  · have hN0 := HR0.out.1 hRz
    have hr2 : R2 = 1 := by rw [HRR.out, hRz, hN0]; simp
    have HX := Lib.hid hN0
    subst hRz
    subst hr2
    have hNz : N = 0 := hN0
    clear hN0
    go_wp2_with fail
    refine (answers_any w4).mono ?_
    rintro e w5 ⟨rfl, hb5⟩
    go_wp2
    go_ret
    exact ⟨rfl, HB4.out.trans (hb5.mono HB4.out.size)⟩
  obtain ⟨n, hn⟩ : ∃ n, R = n + 1 := ⟨R - 1, by omega⟩
  obtain ⟨hl1, hl2⟩ := HLAST.out n hn
  obtain ⟨p, hp⟩ : ∃ p, p = n * k := ⟨_, rfl⟩
  rw [← hp] at hl1 hl2
  obtain ⟨s, hs⟩ : ∃ s, s = N - p := ⟨_, rfl⟩
  have hwn : IntKind.i64.wrap ((R : Int) - 1) = (n : Int) := by rw [IntKind.wrap_i64]; omega
  have hmul : (n : Int) * (k : Int) = (p : Int) := by rw [hp]; simp
  have hwp : IntKind.i64.wrap (p : Int) = (p : Int) := by rw [IntKind.wrap_i64]; omega
  have hwp2 : IntKind.i64.wrap ((n : Int) * (k : Int)) = (p : Int) := by rw [hmul]; exact hwp
  have hws : IntKind.i64.wrap ((N : Int) - (p : Int)) = (s : Int) := by rw [IntKind.wrap_i64]; omega
  have hRz' : ((R : Int) == 0) = false := beq_eq_false_iff_ne.2 (by omega)
  have hsk : s ≤ k := by omega
  have hnR : n < R := by omega
  have HSAME := Lib.hid (show ∀ i, i < n → Sp.col (l0 ++ [x]) k i = Sp.col l0 k i from fun i hi => Sp.col_more (by
    have := Nat.mul_le_mul_right k (show i + 1 ≤ n from hi)
    rw [Nat.succ_mul, ← hp] at this
    rw [← HN.out]; omega))
  have HZERO := Lib.hid (show ∀ i, s ≤ i → i < k → co (Sp.col l0 k n) i = 0 from fun i h1 h2 => by
    rw [Sp.col_at h2, co_far]
    rw [← HN.out, ← hp]; omega)
  obtain ⟨b, off, hA1, hbl, hcs, hrow⟩ := HM4.out.rd n hnR
  rw [Sp.col_len] at hcs
  subst hA1
  obtain ⟨AT, cT, hsa, hmt⟩ := rows_h_any HM2.out (show n ≤ R2 by rw [HRR.out]; omega)
  obtain ⟨AT', cT', hsa', hmt'⟩ := rows_h_any HM4.out (show n ≤ R by omega)
  have HSA := Lib.hid hsa
  have HSA' := Lib.hid hsa'
  have HMT := Lib.hid hmt
  have HMT' := Lib.hid hmt'
  obtain ⟨q, hq⟩ : ∃ q, q = pa n := ⟨_, rfl⟩
  obtain ⟨cq, hcq⟩ : ∃ q, q = cp n := ⟨_, rfl⟩
  rw [← hq, ← hcq] at hcs
  rw [← hq] at hrow
  have HROW := Lib.hid hrow
  have HNR := Lib.hid hn
  have HS := Lib.hid hs
  clear hsa hsa' hmt hmt' hq hcq hrow hl1 hl2 hp hs hn hRz
  go_wp2
  go_loop [10] (fun v => ∃ i : Nat, s ≤ i ∧ i ≤ k ∧ v = .int .i64 (i : Int)) (fun v => k - (intOf v).toNat)
  case atStart => exact ⟨s, Nat.le_refl _, hsk, rfl⟩
  case round =>
    obtain ⟨i, his, hik, rfl⟩ := hrel
    by_cases hi : i < k
    · obtain ⟨y, b', o', hy, hyb, hq', hbl', hc'⟩ := HROW.out.sl.at_ (k := i) (by rw [Sp.col_len]; exact hi)
      have hy0 : y = 0 := by rw [← co_of' hy]; exact HZERO.out i his hi
      subst hy0
      subst hq'
      clear hy hyb
      go_wp2
      go_round
      case rel => exact ⟨i + 1, by omega, by omega, by go_num⟩
      case measure => simp [intOf]; omega
    · obtain rfl : k = i := by omega
      obtain ⟨w9, hw9⟩ : ∃ w9, w9 = w4 := ⟨_, rfl⟩
      have htm : ((N : Int)).tmod (k : Int) = ((N % k : Nat) : Int) := by rw [Int.tmod_eq_emod_of_nonneg (by omega)]; simp
      obtain ⟨z, hz⟩ : ∃ z, z = N % k := ⟨_, rfl⟩
      rw [← hz] at htm
      have hzk : z < k := by rw [hz]; exact Nat.mod_lt _ hkp
      have hwz : IntKind.i64.wrap (z : Int) = (z : Int) := by rw [IntKind.wrap_i64]; omega
      by_cases hz0' : z = 0
      · have hrr : R2 = R + 1 := by rw [HRR.out, ← hz, hz0']; simp
        have hwr : IntKind.i64.wrap ((R : Int) + 1) = (R2 : Int) := by rw [IntKind.wrap_i64]; omega
        have hzz : ((z : Int) == 0) = true := by rw [hz0']; rfl
        have HRRR := Lib.hid hrr
        clear hrr hz0'
        rw [← hw9] at HMT HMT' HB4 hcs ⊢
        have HB5 := HB4
        clear hw9 hz his hsk hik
        go_wp2
        rename_i K' hK _h9
        refine Gt.regionA [Gt.Is (.bool true), Gt.Is (.bool true), Gt.Is (.slice A2 R2 c2), Gt.Is (.int .i64 (R2 : Int)), Gt.Is (.slice (some ⟨b, off, none⟩) R c1), Gt.Is (.int .i64 (R : Int)), Gt.Is (.int .i64 1), Gt.Is (.int .i64 (R2 : Int)), Gt.Is (.bool true), Gt.Is (.bool true), Gt.Is (.bool true), Gt.Is (.slice A2 R2 c2), Gt.Is (.int .i64 (n : Int)), Gt.Is (.slice AT n cT), Gt.Is (.slice (some ⟨b, off, none⟩) R c1), Gt.Is (.int .i64 (n : Int)), Gt.Is (.slice AT' n cT'), Gt.Is (.bool true), Gt.Is (.bool true), Gt.Is (.bool true)] 94
          [⟨[], [], none⟩, ⟨[(0, 75)], [], none⟩, ⟨[(1, 76)], [8], some (76, true)⟩, ⟨[(1, 76), (2, 77)], [], some (76, true)⟩, ⟨[(1, 76)], [7], some (76, true)⟩, ⟨[(1, 76), (4, 79)], [], some (76, true)⟩, ⟨[(1, 76)], [11], some (76, true)⟩, ⟨[(1, 76), (5, 80), (6, 81)], [], some (76, true)⟩, ⟨[(1, 76), (3, 78), (7, 82)], [], some (76, true)⟩, ⟨[(1, 76), (8, 83)], [], none⟩, ⟨[(9, 84)], [], none⟩, ⟨[(10, 85)], [8], some (85, true)⟩, ⟨[(10, 85)], [9], some (85, true)⟩, ⟨[(10, 85), (11, 86), (12, 87)], [], some (85, true)⟩, ⟨[(10, 85)], [7], some (85, true)⟩, ⟨[(10, 85)], [9], some (85, true)⟩, ⟨[(10, 85), (14, 89), (15, 90)], [], some (85, true)⟩, ⟨[(10, 85), (13, 88), (16, 91)], [], some (85, true)⟩, ⟨[(10, 85), (17, 92)], [], none⟩, ⟨[(18, 93)], [], none⟩]
          [(0, 75), (1, 76), (2, 77), (3, 78), (4, 79), (5, 80), (6, 81), (7, 82), (8, 83), (9, 84), (10, 85), (11, 86), (12, 87), (13, 88), (14, 89), (15, 90), (16, 91), (17, 92), (18, 93), (19, 6)] (by kernel_rfl) (by kernel_rfl) (by kernel_rfl) (by kernel_rfl) ?_ ?_ ?_
        · simp only [Gt.Monos]
          repeat' apply And.intro
          all_goals (first | exact trivial | exact Gt.Is.mono _)
        · simp only [Gt.Obs]
          repeat' apply And.intro
          all_goals try exact trivial
          all_goals (
            intro a w5 hg
            have hg' : Below w9.heap.size w9 w5 := hg
            simp only [Gt.Pre, Gt.Kept, Gt.Guarded, Gt.tys, List.getD_cons_zero, List.getD_cons_succ, Gt.Is, Nat.zero_add, Nat.reduceAdd]
            intros
            try (refine ⟨fun _ => ?_, fun hne => absurd (by assumption) hne⟩))
          all_goals (first
            | exact Gt.ok_move rfl (by assumption)
            | exact Gt.ok_assign rfl (by assumption)
            | exact Gt.ok_pick rfl (by assumption) (by rw [if_pos rfl]; assumption)
            | (exact Gt.ok_call (f := 8) rfl #[] (by kernel_rfl) (by simp) ((answers_any _).mono fun e w6 h => ⟨_, h.1, h.2, rfl⟩))
            | (refine Gt.ok_call (f := 12) rfl #[.slice AT n cT, .slice AT' n cT'] (by kernel_rfl) ?_ ((same_yes AT AT' cT cT' n pa2 pa cp2 cp (Sp.col (l0 ++ [x]) k) (Sp.col l0 k) w5 ((HMT.out.below hg').more hg'.size) ((HMT'.out.below hg').more hg'.size) HSAME.out (by omega)).mono fun e w6 h => ⟨_, h.1, h.2, rfl⟩)
               simp [*]
               done)
            | (refine Gt.ok_run ?_ rfl
               simp only [execOp, Option.map_some, Option.map_none, *]
               have k5 := HSA.out w5
               simp only [Sem.run_bind, k5, Result.andThen_ok, Sem.run_pure]
               done)
            | (refine Gt.ok_run ?_ rfl
               simp only [execOp, Option.map_some, Option.map_none, *]
               have k5 := HSA'.out w5
               simp only [Sem.run_bind, k5, Result.andThen_ok, Sem.run_pure]
               done)
            | (refine Gt.ok_run ?_ rfl
               simp only [execOp, resolve, List.map_toArray, List.map_cons, List.map_nil, *]
               go_simp
               done)
            | (refine Gt.ok_run ?_ rfl
               simp only [execOp, *]
               go_simp
               done))
        · intro a w5 hg
          have hg' : Below w9.heap.size w9 w5 := hg
          simp only [Gt.Pre, Gt.tys, List.getD_cons_zero, List.getD_cons_succ, Gt.Is]
          intro h0 h1 h2 h3 h4 h5 h6 h7 h8 h9 h10 h11 h12 h13 h14 h15 h16 h17 h18 h19
          show K' _ _
          refine hK _ _ ?_
          simp only [Gt.puts, List.foldl_cons, List.foldl_nil, h0, h1, h2, h3, h4, h5, h6, h7, h8, h9, h10, h11, h12, h13, h14, h15, h16, h17, h18, h19]
          simp only [Act.put, List.setIfInBounds_toArray, List.set_cons_zero, List.set_cons_succ]
          go_wp2
          go_ret
          exact ⟨rfl, HB5.out.trans (hg'.mono HB5.out.size)⟩
      · have hrr : R2 = R := by rw [HRR.out, ← hz, if_neg hz0']; rfl
        have hwr : IntKind.i64.wrap ((R : Int) + 0) = (R2 : Int) := by rw [IntKind.wrap_i64]; omega
        have hwr2 : IntKind.i64.wrap (R : Int) = (R2 : Int) := by rw [IntKind.wrap_i64]; omega
        have hzz : ((z : Int) == 0) = false := beq_eq_false_iff_ne.2 (by omega)
        have HRRR := Lib.hid hrr
        clear hrr hz0'
        rw [← hw9] at HMT HMT' HB4 hcs ⊢
        have HB5 := HB4
        clear hw9 hz his hsk hik
        go_wp2
        rename_i K' hK _h9
        refine Gt.regionA [Gt.Is (.bool true), Gt.Is (.bool true), Gt.Is (.slice A2 R2 c2), Gt.Is (.int .i64 (R2 : Int)), Gt.Is (.slice (some ⟨b, off, none⟩) R c1), Gt.Is (.int .i64 (R : Int)), Gt.Is (.int .i64 0), Gt.Is (.int .i64 (R2 : Int)), Gt.Is (.bool true), Gt.Is (.bool true), Gt.Is (.bool true), Gt.Is (.slice A2 R2 c2), Gt.Is (.int .i64 (n : Int)), Gt.Is (.slice AT n cT), Gt.Is (.slice (some ⟨b, off, none⟩) R c1), Gt.Is (.int .i64 (n : Int)), Gt.Is (.slice AT' n cT'), Gt.Is (.bool true), Gt.Is (.bool true), Gt.Is (.bool true)] 94
          [⟨[], [], none⟩, ⟨[(0, 75)], [], none⟩, ⟨[(1, 76)], [8], some (76, true)⟩, ⟨[(1, 76), (2, 77)], [], some (76, true)⟩, ⟨[(1, 76)], [7], some (76, true)⟩, ⟨[(1, 76), (4, 79)], [], some (76, true)⟩, ⟨[(1, 76)], [11], some (76, true)⟩, ⟨[(1, 76), (5, 80), (6, 81)], [], some (76, true)⟩, ⟨[(1, 76), (3, 78), (7, 82)], [], some (76, true)⟩, ⟨[(1, 76), (8, 83)], [], none⟩, ⟨[(9, 84)], [], none⟩, ⟨[(10, 85)], [8], some (85, true)⟩, ⟨[(10, 85)], [9], some (85, true)⟩, ⟨[(10, 85), (11, 86), (12, 87)], [], some (85, true)⟩, ⟨[(10, 85)], [7], some (85, true)⟩, ⟨[(10, 85)], [9], some (85, true)⟩, ⟨[(10, 85), (14, 89), (15, 90)], [], some (85, true)⟩, ⟨[(10, 85), (13, 88), (16, 91)], [], some (85, true)⟩, ⟨[(10, 85), (17, 92)], [], none⟩, ⟨[(18, 93)], [], none⟩]
          [(0, 75), (1, 76), (2, 77), (3, 78), (4, 79), (5, 80), (6, 81), (7, 82), (8, 83), (9, 84), (10, 85), (11, 86), (12, 87), (13, 88), (14, 89), (15, 90), (16, 91), (17, 92), (18, 93), (19, 6)] (by kernel_rfl) (by kernel_rfl) (by kernel_rfl) (by kernel_rfl) ?_ ?_ ?_
        · simp only [Gt.Monos]
          repeat' apply And.intro
          all_goals (first | exact trivial | exact Gt.Is.mono _)
        · simp only [Gt.Obs]
          repeat' apply And.intro
          all_goals try exact trivial
          all_goals (
            intro a w5 hg
            have hg' : Below w9.heap.size w9 w5 := hg
            simp only [Gt.Pre, Gt.Kept, Gt.Guarded, Gt.tys, List.getD_cons_zero, List.getD_cons_succ, Gt.Is, Nat.zero_add, Nat.reduceAdd]
            intros
            try (refine ⟨fun _ => ?_, fun hne => absurd (by assumption) hne⟩))
          all_goals (first
            | exact Gt.ok_move rfl (by assumption)
            | exact Gt.ok_assign rfl (by assumption)
            | exact Gt.ok_pick rfl (by assumption) (by rw [if_pos rfl]; assumption)
            | (exact Gt.ok_call (f := 8) rfl #[] (by kernel_rfl) (by simp) ((answers_any _).mono fun e w6 h => ⟨_, h.1, h.2, rfl⟩))
            | (refine Gt.ok_call (f := 12) rfl #[.slice AT n cT, .slice AT' n cT'] (by kernel_rfl) ?_ ((same_yes AT AT' cT cT' n pa2 pa cp2 cp (Sp.col (l0 ++ [x]) k) (Sp.col l0 k) w5 ((HMT.out.below hg').more hg'.size) ((HMT'.out.below hg').more hg'.size) HSAME.out (by omega)).mono fun e w6 h => ⟨_, h.1, h.2, rfl⟩)
               simp [*]
               done)
            | (refine Gt.ok_run ?_ rfl
               simp only [execOp, Option.map_some, Option.map_none, *]
               have k5 := HSA.out w5
               simp only [Sem.run_bind, k5, Result.andThen_ok, Sem.run_pure]
               done)
            | (refine Gt.ok_run ?_ rfl
               simp only [execOp, Option.map_some, Option.map_none, *]
               have k5 := HSA'.out w5
               simp only [Sem.run_bind, k5, Result.andThen_ok, Sem.run_pure]
               done)
            | (refine Gt.ok_run ?_ rfl
               simp only [execOp, resolve, List.map_toArray, List.map_cons, List.map_nil, *]
               go_simp
               done)
            | (refine Gt.ok_run ?_ rfl
               simp only [execOp, *]
               go_simp
               done))
        · intro a w5 hg
          have hg' : Below w9.heap.size w9 w5 := hg
          simp only [Gt.Pre, Gt.tys, List.getD_cons_zero, List.getD_cons_succ, Gt.Is]
          intro h0 h1 h2 h3 h4 h5 h6 h7 h8 h9 h10 h11 h12 h13 h14 h15 h16 h17 h18 h19
          show K' _ _
          refine hK _ _ ?_
          simp only [Gt.puts, List.foldl_cons, List.foldl_nil, h0, h1, h2, h3, h4, h5, h6, h7, h8, h9, h10, h11, h12, h13, h14, h15, h16, h17, h18, h19]
          simp only [Act.put, List.setIfInBounds_toArray, List.set_cons_zero, List.set_cons_succ]
          go_wp2
          go_ret
          exact ⟨rfl, HB5.out.trans (hg'.mono HB5.out.size)⟩

theorem contract (H : Type) (enc : TypeId × Value → H) (W : World) (base : Nat) (args : Array Value) (ds gs : List (DataW H)) (before : List MemPlace)
    (hval : ∀ (j : Nat) t v, Try.f7.params[j]? = some t → args[j]? = some v → Value.okWide Try.prog W .any base t v)
    (hW : DataW.Whole enc Try.prog Try.f7.params.toList Rows.stripeEndsSpec.vars false W args.toList ds gs before) (hk : Rows.uptoSmall H (ds ++ gs) = true) :
    Calls Try.prog 7 args W fun e W' => ∃ v, e = .returned v ∧ Rows.stripeEndsSpec.post enc Try.prog Try.f7 false true false false W args v W' := by
  have hW' := hW
  obtain ⟨p, q, hA0, hV, rfl, _hfz, _hnd⟩ := hW
  have hA : DataW.TrodAll enc Try.prog W 0 (fun _ => true) true Try.f7.params.toList args.toList ds p := hA0
  rw [Try.params7] at hA hval
  obtain ⟨v0, vs0, d0, ds0, p0, q0, hargs, rfl, rfl, h0, r0⟩ := trodAll_cons hA
  obtain ⟨v1, vs1, d1, ds1, p1, q1, rfl, rfl, rfl, h1, r1⟩ := trodAll_cons r0
  obtain ⟨v2, vs2, d2, ds2, p2, q2, rfl, rfl, rfl, h2, r2⟩ := trodAll_cons r1
  obtain ⟨rfl, rfl, rfl⟩ := trodAll_nil r2
  obtain rfl : args = #[v0, v1, v2] := by cases args; simp_all
  obtain ⟨rfl, rfl⟩ := trodVars_none hV
  simp only [List.append_nil] at hk
  have k0 := h0
  have lt0 : ∀ x ∈ p0, x.block < W.heap.size := by obtain ⟨m, hm⟩ := k0; exact DataW.trod_lt m _ _ _ hm
  obtain ⟨A0, c0, l0, rfl, w0, sz0⟩ := open_bytes Try.underlying22 Try.underlying5 (by kernel_rfl) (hval 0 22 v0 rfl rfl) h0
  have s0 := bulks.bytes_small (bulks.part hk (j := 0) rfl) sz0
  obtain ⟨a1, rfl, rfl, rfl, w1⟩ := open_int Try.underlying5 (hval 1 5 v1 rfl rfl) h1
  obtain ⟨a2, rfl, rfl, rfl, w2⟩ := open_int Try.underlying5 (hval 2 5 v2 rfl rfl) h2
  clear hA0
  refine (walk A0 c0 l0 a1 a2 W w0 s0 w1 w2).mono fun e W' ⟨he, bel⟩ => ?_
  subst he
  exact ⟨_, rfl, _, _, _, [], _, [], hW', trodAll_mk1 (shut_bool Try.underlying4 _), (trodAll_cons_mk (Below.trod laidOut (by kernel_rfl) (of_decide_eq_true (by kernel_rfl)) k0 bel lt0) (trodAll_cons_mk (shut_int Try.underlying5 w1) (trodAll_cons_mk (shut_int Try.underlying5 w2) trodAll_mk0))), rfl, bel.frame _, fun h => by cases h⟩

set_option maxRecDepth 100000 in
theorem lifted (os : Os) (started : os.Started) (H : Type) (enc : TypeId × Value → H) (F : Stop.Interp) :
    ReturnsInHanded {} Try.checked os 7 .any ((Rows.OpenSpec.upto Rows.stripeEndsSpec).pre6 enc Try.prog Try.f7 Rows.stripeEndsUptoRow.domain false) (((Rows.OpenSpec.upto Rows.stripeEndsSpec).at F).post enc Try.prog Try.f7 false true false false) := by
  refine returnsInHanded_of_cond (C := Try.checked) (s := Rows.OpenSpec.upto Rows.stripeEndsSpec) (k := Rows.uptoSmall) rfl own started (by kernel_rfl) Try.func7
    (OpenSpec.witness (enc := enc) (C := Try.checked) (s := Rows.OpenSpec.upto Rows.stripeEndsSpec) (k := Rows.uptoSmall) rfl false ⟨#[], #[.slice none 0 0, .int .u8 0, .int .u8 0], []⟩ 8 (by kernel_rfl) (by kernel_rfl) (by kernel_rfl)
      (x := ([.nil, .lit (.int .u8 0), .lit (.int .u8 0)], [], [])) (by kernel_rfl) rfl (by kernel_rfl)) ?_
  intro W base args ds gs before hval hW _ hk _
  exact contract H enc W base args ds gs before hval hW hk

theorem over : Rows.stripeEndsUptoRow.holds Try.pinned (Rows.OpenSpec.upto Rows.stripeEndsSpec) :=
  OpenClaim.holds_of_cond 7 Try.f7 rfl rfl rfl rfl rfl rfl rfl ⟨rfl, rfl, rfl, rfl, rfl⟩ rfl rfl rfl rfl rfl (by kernel_rfl) Try.func7 (by kernel_rfl)
    (of_decide_eq_true (by kernel_rfl)) (by unfold Func.isWrapper; first | (rw [if_pos (by decide +kernel)]; kernel_rfl) | (rw [if_neg (by decide +kernel)]; exact ⟨rfl, rfl⟩))
    (fun os started H enc _ F => lifted os started H enc F)

end Go.Proofs.Ytnpjncbdmgdjnaa.stripeEnds
namespace Go.Proofs.Ytnpjncbdmgdjnaa
/-- The statement. -/
theorem stripeEnds_holds : Rows.StripeEndsUptoSaid := stripeEnds.over
#print axioms stripeEnds_holds
end Go.Proofs.Ytnpjncbdmgdjnaa

