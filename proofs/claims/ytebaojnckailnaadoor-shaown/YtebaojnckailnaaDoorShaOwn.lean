/- For every input ShaOwn returns true, and every argument reads behind the call as it did before: no condition. -/
import Derived.Test.YtebaojnckailnaaDoorCards
import Derived.Test.YtebaojnckailnaaDoorTie
import Derived.ProofKit
import Derived.OpenShut
import Derived.Deep.DeepHandedRow
import Derived.Lib.LaidTab
import Derived.SizedLaws
import Derived.ChangeOld
import Derived.Carry
import Derived.SizedLaws
import Derived.ChangeOld
import Derived.Carry
import Derived.Test.YtebaojnckailnaaDoorLawb
import Derived.Test.YtebaojnckailnaaDoorShh
import Derived.Test.YtebaojnckailnaaDoorStc
import Derived.Test.YtebaojnckailnaaDoorGty
namespace Go.Proofs.YtebaojnckailnaaDoor.shaOwn
open Go.ChangeShapes Go.WideShapes Go.ChangeAt Go.RowKit Go.Shelf Gw Pol

theorem own : ownKnob Tryd.prog.godebug = none := by kernel_rfl
theorem laidOut : laidOutB Tryd.prog = true := by kernel_rfl
/-- A row that holds the sum of l. -/
def SumIs (l : List Nat) : Value → World → Prop := fun v w => ∃ A c, v = .slice A 32 c ∧ In w w.heap.size A c (Sh.sum l)
theorem SumIs.mono (l : List Nat) : Gt.Mono (SumIs l) := by
  rintro v w w' ⟨A, c, rfl, h⟩ hg
  exact ⟨A, c, rfl, (h.below hg).more hg.size⟩
set_option maxRecDepth 100000 in
set_option maxHeartbeats 2000000 in
theorem walk_nat (A : Option Addr) (c : Nat) (l : List Nat) (x : Nat) (hx : x < 256) (w : World) (hI : In w w.heap.size A c l) (hs : c ≤ 140737488351232) (hT : KT w) :
    Calls Tryd.prog 5 #[.slice A l.length c, .int .u8 (x : Int)] w fun e w' => e = .returned (.bool true) ∧ Below w.heap.size w w' := by
  obtain ⟨i0, hi0, hz0, hz1, hz2⟩ := info_parts byte_info
  have hcap := hI.cap
  obtain ⟨N, hN⟩ : ∃ N, N = l.length := ⟨_, rfl⟩
  have hI0 := hI
  rw [← hN] at hcap ⊢
  have HN := Lib.hid hN
  have HSL := Lib.hid (hI.sl.alloc (Nat.le_refl _) (.cells #[] 5))
  have hnil := hI.none_
  have hb10 : BB [x, 7, 7, 7, 7, 7, 7, 7, 7, 7] := fun y hy => by
    simp only [List.mem_cons, List.not_mem_nil, or_false] at hy
    omega
  have HI := Lib.hid hI
  clear hN hI hI0
  go_enter Tryd.func5, Tryd.ntmps5
  go_wp2_with (first
    | (at_builtin; refine wpList_app rfl (.tmp 7) (.tmp 8) 22 rfl w.heap.size 5 i0 _ Tryd.underlying22 hi0 hz0 hz1 hz2 rfl (some ⟨w.heap.size, 0, none⟩) 0 0 [] rfl rfl (Own.lit0 w w.heap.size 5 (Nat.le_refl _)) w.heap.size A N c l rfl HN.out hnil HSL.out (by rw [← HN.out]; simp; omega) (by simp) ?_; intro A2 c2 w2 hown hgr; rw [List.nil_append] at hown; rw [List.nil_append, ← HN.out])
    | (at_builtin; refine wpList_app rfl (.tmp 9) (.tmp 11) 22 rfl w.heap.size 5 i0 _ Tryd.underlying22 hi0 hz0 hz1 hz2 rfl A2 N c2 l rfl HN.out (hown.alloc _) (w2.heap.size + 1) (some ⟨w2.heap.size, 0, none⟩) 10 10 [x, 7, 7, 7, 7, 7, 7, 7, 7, 7] rfl rfl (fun h => by cases h) (Sl.lit w2 5 _ hb10) (by rw [← HN.out]; simp; omega) (by rw [World.size_alloc]; have := hgr.size; rw [World.size_alloc] at this; omega) ?_; intro A3 c3 w3 hown3 hgr3; have hcp3 : N ≤ c3 := (by have := hown3.cap; rw [List.length_append, ← HN.out] at this; omega); rw [List.length_append, ← HN.out])
    | fail)
  have hb2 := below_lit' (Below.refl w.heap.size w) (Nat.le_refl _) hgr
  have hb3 := below_app hb2 hb2.size hown hgr3
  have hs3 := hb3.size
  have hIn3 : In w3 w3.heap.size A3 c3 l := by
    have h := hown3.inn
    refine ⟨?_, by rw [← HN.out]; exact hcp3, h.none_⟩
    have h2 := h.sl.take N
    rw [HN.out, List.take_left] at h2
    exact h2
  have HK3 := Lib.hid (hT.to hb3)
  have HIN3 := Lib.hid hIn3
  have HOWN3 := Lib.hid hown3
  clear hown hgr hgr3 hown3 hIn3 HSL
  refine (sum_any A3 c3 N l w3 HN.out HIN3.out (by rw [← HN.out]; omega) HK3.out).mono ?_
  obtain ⟨T, hTT⟩ : ∃ T : Nat, T = 32 := ⟨_, rfl⟩
  rintro e w4 ⟨A4, c4, he4, hown4, hB4⟩
  rw [← hTT] at he4
  subst he4
  have HTT := Lib.hid hTT
  clear hTT
  have hb4 := hb3.trans (hB4.mono hs3)
  have HI4 := Lib.hid (hown4.inn)
  have hs4 := hb4.size
  obtain ⟨g, hA3, hg3, _⟩ := Own.store HOWN3.out (k := 0) (by rw [List.length_append]; simp)
  subst hA3
  obtain ⟨N9, hN9⟩ : ∃ N9, N9 = N + 9 := ⟨_, rfl⟩
  have e9 : IntKind.i64.wrap ((N : Int) + 9) = (N9 : Int) := by rw [IntKind.wrap_i64]; omega
  have hM1 : (N : Int) < ((N + 10 : Nat) : Int) := by omega
  have hM2 : (N9 : Int) < ((N + 10 : Nat) : Int) := by omega
  have HX := Lib.hid (show co (l ++ [x, 7, 7, 7, 7, 7, 7, 7, 7, 7]) N = x by rw [co_append_right (by rw [← HN.out]; omega), ← HN.out, Nat.sub_self]; rfl)
  have HY := Lib.hid (show co (l ++ [x, 7, 7, 7, 7, 7, 7, 7, 7, 7]) N9 = 7 by rw [co_append_right (by rw [← HN.out]; omega), ← HN.out, hN9, Nat.add_sub_cancel_left]; rfl)
  have HL10 := Lib.hid (show (l ++ [x, 7, 7, 7, 7, 7, 7, 7, 7, 7]).length = N + 10 by rw [List.length_append, ← HN.out]; rfl)
  have HN9 := Lib.hid hN9
  obtain ⟨M, hM⟩ : ∃ M, M = N + 10 := ⟨_, rfl⟩
  rw [← hM] at hM1 hM2 HL10 ⊢
  have HM := Lib.hid hM
  have HBB := Lib.hid (Sh.sum_bb l)
  have hB34 : Below w3.heap.size w3 w4 := hB4
  clear hN9 hM hown4 hB4
  have HK4 := Lib.hid (hT.to hb4)
  obtain ⟨σ, hσ⟩ : ∃ σ, σ = str (Sh.sum l) := ⟨_, rfl⟩
  obtain ⟨τ, hτ⟩ : ∃ τ, τ = str l := ⟨_, rfl⟩
  have HSG := Lib.hid hσ
  have HTU := Lib.hid hτ
  clear hσ hτ
  go_wp2
  rename_i K hK
  refine Gt.regionG [Gt.Is (.bool true), Gt.Is (.bool true), Gt.Is (.slice A4 T c4), Gt.Is (.string σ), Gt.Is (.slice A N c), SumIs l, Gt.Is (.string σ), Gt.Is (.bool true), Gt.Is (.bool true), Gt.Is (.bool true), Gt.Is (.slice (some ⟨g, 0, none⟩) M c3), Gt.Is (.slice A N c), Gt.Is (.int .i64 (N : Int)), Gt.Is (.slice (some ⟨g, 0, none⟩) N c3), Gt.Is (.string τ), Gt.Is (.slice A N c), Gt.Is (.string τ), Gt.Is (.bool true), Gt.Is (.bool true), Gt.Is (.bool true), Gt.Is (.slice (some ⟨g, 0, none⟩) M c3), Gt.Is (.slice A N c), Gt.Is (.int .i64 (N : Int)), Gt.Is (.pointer (some ⟨g, N, none⟩)), Gt.Is (.int .u8 (x : Int)), Gt.Is (.int .u8 (x : Int)), Gt.Is (.bool true), Gt.Is (.bool true), Gt.Is (.bool true), Gt.Is (.slice (some ⟨g, 0, none⟩) M c3), Gt.Is (.slice A N c), Gt.Is (.int .i64 (N : Int)), Gt.Is (.int .i64 (N9 : Int)), Gt.Is (.pointer (some ⟨g, N9, none⟩)), Gt.Is (.int .u8 7), Gt.Is (.bool true), Gt.Is (.bool true), Gt.Is (.bool true)] 55
    [⟨[], [], none⟩, ⟨[(0, 18)], [], none⟩, ⟨[(1, 19)], [6], some (19, true)⟩, ⟨[(1, 19), (2, 20)], [], some (19, true)⟩, ⟨[(1, 19)], [0], some (19, true)⟩, ⟨[(1, 19), (4, 22)], [], some (19, true)⟩, ⟨[(1, 19), (5, 23)], [], some (19, true)⟩, ⟨[(1, 19), (3, 21), (6, 24)], [], some (19, true)⟩, ⟨[(1, 19), (7, 25)], [], none⟩, ⟨[(8, 26)], [], none⟩, ⟨[(9, 27)], [5], some (27, true)⟩, ⟨[(9, 27)], [0], some (27, true)⟩, ⟨[(9, 27), (11, 29)], [], some (27, true)⟩, ⟨[(9, 27), (10, 28), (12, 30)], [], some (27, true)⟩, ⟨[(9, 27), (13, 31)], [], some (27, true)⟩, ⟨[(9, 27)], [0], some (27, true)⟩, ⟨[(9, 27), (15, 33)], [], some (27, true)⟩, ⟨[(9, 27), (14, 32), (16, 34)], [], some (27, true)⟩, ⟨[(9, 27), (17, 35)], [], none⟩, ⟨[(18, 36)], [], none⟩, ⟨[(19, 37)], [5], some (37, true)⟩, ⟨[(19, 37)], [0], some (37, true)⟩, ⟨[(19, 37), (21, 39)], [], some (37, true)⟩, ⟨[(19, 37), (20, 38), (22, 40)], [], some (37, true)⟩, ⟨[(19, 37), (23, 41)], [], some (37, true)⟩, ⟨[(19, 37)], [1], some (37, true)⟩, ⟨[(19, 37), (24, 42), (25, 43)], [], some (37, true)⟩, ⟨[(19, 37), (26, 44)], [], none⟩, ⟨[(27, 45)], [], none⟩, ⟨[(28, 46)], [5], some (46, true)⟩, ⟨[(28, 46)], [0], some (46, true)⟩, ⟨[(28, 46), (30, 48)], [], some (46, true)⟩, ⟨[(28, 46), (31, 49)], [], some (46, true)⟩, ⟨[(28, 46), (29, 47), (32, 50)], [], some (46, true)⟩, ⟨[(28, 46), (33, 51)], [], some (46, true)⟩, ⟨[(28, 46), (34, 52)], [], some (46, true)⟩, ⟨[(28, 46), (35, 53)], [], none⟩, ⟨[(36, 54)], [], none⟩]
    [(0, 18), (1, 19), (2, 20), (3, 21), (4, 22), (5, 23), (6, 24), (7, 25), (8, 26), (9, 27), (10, 28), (11, 29), (12, 30), (13, 31), (14, 32), (15, 33), (16, 34), (17, 35), (18, 36), (19, 37), (20, 38), (21, 39), (22, 40), (23, 41), (24, 42), (25, 43), (26, 44), (27, 45), (28, 46), (29, 47), (30, 48), (31, 49), (32, 50), (33, 51), (34, 52), (35, 53), (36, 54), (37, 4)]
    [0, 1, 2, 3, 5, 6, 7, 8, 9, 10, 11, 12, 13, 14, 15, 16, 17] (by kernel_rfl) rfl (by kernel_rfl) (by kernel_rfl) ?_ ?_ ?_
  · simp only [Gt.Monos]
    repeat' apply And.intro
    all_goals (first | exact trivial | exact Gt.Is.mono _ | exact SumIs.mono _)
  · simp only [Gt.Obs]
    repeat' apply And.intro
    all_goals try exact trivial
    all_goals (
      intro a w5 hg
      have hg' : Below w4.heap.size w4 w5 := hg
      simp only [Gt.Pre, Gt.Kept, Gt.Guarded, Gt.tys, List.getD_cons_zero, List.getD_cons_succ, Gt.Is, Nat.zero_add, Nat.reduceAdd]
      intros
      try (refine ⟨fun _ => ?_, fun hne => absurd (by assumption) hne⟩))
    all_goals (first
      | exact Gt.ok_move rfl (by assumption)
      | exact Gt.ok_assign rfl (by assumption)
      | exact Gt.ok_pick rfl (by assumption) (by rw [if_pos rfl]; assumption)
      | exact Gt.ok_call (f := 6) rfl #[] (by kernel_rfl) (by simp) ((answers_any _ (HK4.out.to hg')).mono fun e w6 h => ⟨_, h.1, h.2, rfl⟩)
      | (refine Gt.ok_call (f := 7) rfl #[.slice A N c] (by kernel_rfl) (by simp [*]) ((sum_any A c N l _ HN.out ((HI.out.below (hb4.trans (hg'.mono hs4))).more (Nat.le_trans hs4 hg'.size)) (by rw [← HN.out]; omega) (HK4.out.to hg')).mono ?_)
         rintro e w6 ⟨A6, c6, rfl, hown6, hB6⟩
         exact ⟨_, rfl, hB6, A6, c6, rfl, hown6.inn⟩)
      | (have k5 := conv_sl (P := Tryd.prog) (HI4.out.below hg').sl Tryd.underlying22 Tryd.underlying5 Tryd.underlying9 c4
         rw [Sh.sum_len, ← HTT.out, ← HSG.out] at k5
         exact Gt.ok_convert rfl (by assumption) k5 rfl)
      | (have k5 := conv_sl (P := Tryd.prog) (HIN3.out.below (hB34.trans (hg'.mono hB34.size))).sl Tryd.underlying22 Tryd.underlying5 Tryd.underlying9 c3
         rw [← HN.out, ← HTU.out] at k5
         exact Gt.ok_convert rfl (by assumption) k5 rfl)
      | (have k5 := conv_sl (P := Tryd.prog) (HI.out.below (hb4.trans (hg'.mono hs4))).sl Tryd.underlying22 Tryd.underlying5 Tryd.underlying9 c
         rw [← HN.out, ← HTU.out] at k5
         exact Gt.ok_convert rfl (by assumption) k5 rfl)
      | (rename_i h23 _
         obtain ⟨A6, c6, e6, hI6⟩ := h23
         have k5 := conv_sl (P := Tryd.prog) hI6.sl Tryd.underlying22 Tryd.underlying5 Tryd.underlying9 c6
         rw [Sh.sum_len, ← HSG.out] at k5
         exact Gt.ok_convert rfl e6 k5 rfl)
      | (have x6 := (HOWN3.out.kept (hB34.trans (hg'.mono hB34.size))).cell (k := N) (by rw [HL10.out]; have := HM.out; omega)
         have y6 := (HOWN3.out.kept (hB34.trans (hg'.mono hB34.size))).cell (k := N9) (by rw [HL10.out]; have := HM.out; have := HN9.out; omega)
         rw [HX.out] at x6
         rw [HY.out] at y6
         refine Gt.ok_run ?_ rfl
         simp only [execOp, resolve, List.map_toArray, List.map_cons, List.map_nil, Option.map_some, Option.map_none, *]
         go_simp
         done)
      | fail)
  · intro a w5 hg hsz hdf
    simp only [Gt.Pre, Gt.Kept, Gt.tys, List.getD_cons_zero, List.getD_cons_succ, Gt.Is]
    intros
    refine hK _ _ ?_
    rw [Gt.act_lit hsz hdf]
    simp only [show List.range 55 = [0, 1, 2, 3, 4, 5, 6, 7, 8, 9, 10, 11, 12, 13, 14, 15, 16, 17, 18, 19, 20, 21, 22, 23, 24, 25, 26, 27, 28, 29, 30, 31, 32, 33, 34, 35, 36, 37, 38, 39, 40, 41, 42, 43, 44, 45, 46, 47, 48, 49, 50, 51, 52, 53, 54] from rfl, List.map_cons, List.map_nil, *]
    go_wp2
    go_ret
    exact ⟨rfl, hb4.trans (Below.mono hg hs4)⟩
theorem walk (A0 : Option Addr) (c0 : Nat) (l0 : List Nat) (a1 : Int) (w : World) (w0 : In w w.heap.size A0 c0 l0) (s0 : c0 ≤ 140737488351232) (w1 : (Lit.int .u8 a1).wf = true) (hT : KT w) :
    Calls Tryd.prog 5 #[.slice A0 l0.length c0, .int .u8 a1] w fun e w' => e = .returned (.bool true) ∧ Below w.heap.size w w' := by
  obtain ⟨h1, h2⟩ := bounds_u8 w1
  obtain ⟨a, rfl⟩ := Int.eq_ofNat_of_zero_le h1
  exact walk_nat A0 c0 l0 a (by omega) w w0 s0 hT

theorem gTab : Tryd.prog.globalNamed "shamrock/sha.roundWords" = some 0 := by kernel_rfl
theorem gTabType : (Tryd.prog.globals[0]?).map (·.type) = some 39 := by kernel_rfl
theorem cellsT : Tryd.prog.cellsOf 39 = 64 := by kernel_rfl
theorem cellsE : Tryd.prog.cellsOf 28 = 1 := by kernel_rfl
theorem table {W : World} (h : laidMetH Tryd.prog Rows.shaOwnRow.laid W) : Lib.TabIs Tryd.prog W "shamrock/sha.roundWords" .u32 [1116352408, 1899447441, 3049323471, 3921009573, 961987163, 1508970993, 2453635748, 2870763221, 3624381080, 310598401, 607225278, 1426881987, 1925078388, 2162078206, 2614888103, 3248222580, 3835390401, 4022224774, 264347078, 604807628, 770255983, 1249150122, 1555081692, 1996064986, 2554220882, 2821834349, 2952996808, 3210313671, 3336571891, 3584528711, 113926993, 338241895, 666307205, 773529912, 1294757372, 1396182291, 1695183700, 1986661051, 2177026350, 2456956037, 2730485921, 2820302411, 3259730800, 3345764771, 3516065817, 3600352804, 4094571909, 275423344, 430227734, 506948616, 659060556, 883997877, 958139571, 1322822218, 1537002063, 1747873779, 1955562222, 2024104815, 2227730452, 2361852424, 2428436474, 2756734187, 3204031479, 3329325298] :=
  Lib.tabIs_of_head (rest := []) gTab gTabType Tryd.underlying39 Tryd.underlying28 cellsE cellsT h
/-- The table's cells, as the walks ask them. -/
theorem tabK {W : World} (h : laidMetH Tryd.prog Rows.shaOwnRow.laid W) : KT W := fun t ht => by
  rw [(table h).cell gTab t ht]
  have hall : ∀ t, t < 64 → ([1116352408, 1899447441, 3049323471, 3921009573, 961987163, 1508970993, 2453635748, 2870763221, 3624381080, 310598401, 607225278, 1426881987, 1925078388, 2162078206, 2614888103, 3248222580, 3835390401, 4022224774, 264347078, 604807628, 770255983, 1249150122, 1555081692, 1996064986, 2554220882, 2821834349, 2952996808, 3210313671, 3336571891, 3584528711, 113926993, 338241895, 666307205, 773529912, 1294757372, 1396182291, 1695183700, 1986661051, 2177026350, 2456956037, 2730485921, 2820302411, 3259730800, 3345764771, 3516065817, 3600352804, 4094571909, 275423344, 430227734, 506948616, 659060556, 883997877, 958139571, 1322822218, 1537002063, 1747873779, 1955562222, 2024104815, 2227730452, 2361852424, 2428436474, 2756734187, 3204031479, 3329325298] : List Int).getD t 0 = (Pol.co Sh.kk t : Int) := by decide +kernel
  rw [hall t ht]
set_option maxRecDepth 100000 in
theorem contract (H : Type) (enc : TypeId × Value → H) (W : World) (base : Nat) (args : Array Value) (ds gs : List (DataW H)) (before : List MemPlace)
    (hval0 : ∀ (j : Nat) t v, Tryd.f5.params[j]? = some t → args[j]? = some v → Value.okWide Tryd.prog W .any base t v)
    (hW : DataW.Whole enc Tryd.prog Tryd.f5.params.toList Rows.shaOwnSpec.vars false W args.toList ds gs before)
    (hsz0 : (DataW.weightsEach Tryd.prog (Tryd.f5.params.toList ++ Rows.shaOwnSpec.plain.varTypes Tryd.prog) (ds ++ gs)).all (· ≤ reachBytes) = true) (hL : laidMetH Tryd.prog Rows.shaOwnRow.laid W) :
    Calls Tryd.prog 5 args W fun e W' => ∃ v, e = .returned v ∧ Rows.shaOwnSpec.post enc Tryd.prog Tryd.f5 false true false false W args v W' := by
  have hval : ∀ (j : Nat) t v, Tryd.f5.params[j]? = some t → args[j]? = some v → Value.okWide Tryd.prog W .any base t v := hval0
  have hW' := hW
  obtain ⟨p, q, hA0, hV, rfl, _hfz, _hnd⟩ := hW
  have hA : DataW.TrodAll enc Tryd.prog W 0 (fun _ => true) true Tryd.f5.params.toList args.toList ds p := hA0
  have hsz : (DataW.weightsEach Tryd.prog (Tryd.f5.params.toList ++ Rows.shaOwnSpec.plain.varTypes Tryd.prog) (ds ++ gs)).all (· ≤ reachBytes) = true := hsz0
  rw [Tryd.params5] at hA hval hsz
  obtain ⟨v0, vs0, d0, ds0, p0, q0, hargs, rfl, rfl, h0, r0⟩ := trodAll_cons hA
  obtain ⟨v1, vs1, d1, ds1, p1, q1, rfl, rfl, rfl, h1, r1⟩ := trodAll_cons r0
  obtain ⟨rfl, rfl, rfl⟩ := trodAll_nil r1
  obtain rfl : args = #[v0, v1] := by cases args; simp_all
  obtain ⟨rfl, rfl⟩ := trodVars_none hV
  have k0 := h0
  have lt0 : ∀ x ∈ p0, x.block < W.heap.size := by obtain ⟨m, hm⟩ := k0; exact DataW.trod_lt m _ _ _ hm
  obtain ⟨A0, c0, l0, rfl, w0, sz0⟩ := open_bytes Tryd.underlying22 Tryd.underlying5 (by kernel_rfl) (hval 0 22 v0 rfl rfl) h0
  have s0 := sized_bytes hsz (j := 0) (t := 22) (e := 5) rfl rfl Tryd.underlying22 (by kernel_rfl) sz0
  obtain ⟨a1, rfl, rfl, rfl, w1⟩ := open_int Tryd.underlying5 (hval 1 5 v1 rfl rfl) h1
  have hT := tabK hL
  clear hA0 hval0 hsz0 hsz hL
  refine (walk A0 c0 l0 a1 W w0 s0 w1 hT).mono fun e W' ⟨he, bel⟩ => ?_
  subst he
  exact ⟨_, rfl, _, _, _, [], _, [], hW', trodAll_mk1 (shut_bool Tryd.underlying4 _), (trodAll_cons_mk (Below.trod laidOut (by kernel_rfl) (of_decide_eq_true (by kernel_rfl)) k0 bel lt0) (trodAll_cons_mk (shut_int Tryd.underlying5 w1) trodAll_mk0)), rfl, bel.frame _, fun h => by cases h⟩
noncomputable def laidWorld (os : Os) : World :=
  { World.holding Tryd.prog os ⟨#[], #[], []⟩ with heap := (World.holding Tryd.prog os ⟨#[], #[], []⟩).heap.modify 0 fun
      | .cells _ t frozen => .cells #[.int .u32 1116352408, .int .u32 1899447441, .int .u32 3049323471, .int .u32 3921009573, .int .u32 961987163, .int .u32 1508970993, .int .u32 2453635748, .int .u32 2870763221, .int .u32 3624381080, .int .u32 310598401, .int .u32 607225278, .int .u32 1426881987, .int .u32 1925078388, .int .u32 2162078206, .int .u32 2614888103, .int .u32 3248222580, .int .u32 3835390401, .int .u32 4022224774, .int .u32 264347078, .int .u32 604807628, .int .u32 770255983, .int .u32 1249150122, .int .u32 1555081692, .int .u32 1996064986, .int .u32 2554220882, .int .u32 2821834349, .int .u32 2952996808, .int .u32 3210313671, .int .u32 3336571891, .int .u32 3584528711, .int .u32 113926993, .int .u32 338241895, .int .u32 666307205, .int .u32 773529912, .int .u32 1294757372, .int .u32 1396182291, .int .u32 1695183700, .int .u32 1986661051, .int .u32 2177026350, .int .u32 2456956037, .int .u32 2730485921, .int .u32 2820302411, .int .u32 3259730800, .int .u32 3345764771, .int .u32 3516065817, .int .u32 3600352804, .int .u32 4094571909, .int .u32 275423344, .int .u32 430227734, .int .u32 506948616, .int .u32 659060556, .int .u32 883997877, .int .u32 958139571, .int .u32 1322822218, .int .u32 1537002063, .int .u32 1747873779, .int .u32 1955562222, .int .u32 2024104815, .int .u32 2227730452, .int .u32 2361852424, .int .u32 2428436474, .int .u32 2756734187, .int .u32 3204031479, .int .u32 3329325298] t frozen
      | o => o }
set_option maxRecDepth 100000 in
theorem laid_met (os : Os) : laidMet Tryd.prog Rows.shaOwnRow.laid ((laidWorld os).forCall (fun _ _ => 0) ⟨#[], #[.slice none 0 0, .int .u8 0], []⟩).memory :=
  laidMet_of_run' 8 (by kernel_rfl) (by kernel_rfl)
theorem reads (os : Os) {H : Type} (enc : TypeId × Value → H) : ∃ places, DataW.whole enc Tryd.prog ((laidWorld os).forCall (fun _ _ => 0) ⟨#[], #[.slice none 0 0, .int .u8 0], []⟩).memory Tryd.f5.params.toList Rows.shaOwnSpec.vars false (#[.slice none 0 0, .int .u8 0] : Array Value).toList 8 = some ([.nil, .lit (.int .u8 0)], [], places) :=
  ⟨[], by kernel_rfl⟩
set_option maxRecDepth 100000 in
theorem lifted (os : Os) (started : os.Started) (H : Type) (enc : TypeId × Value → H) (F : Stop.Interp) :
    ReturnsInHanded {} Tryd.checked os 5 .any ((OpenSpec.ofChange Rows.shaOwnSpec).preRow enc Tryd.prog Tryd.f5 Rows.shaOwnRow.domain false Rows.shaOwnRow.laid) (((OpenSpec.ofChange Rows.shaOwnSpec).at F).post enc Tryd.prog Tryd.f5 false true false false) := by
  obtain ⟨places, hx⟩ := reads os enc
  refine returnsInHanded_of_row (C := Tryd.checked) (s := OpenSpec.ofChange Rows.shaOwnSpec) own started (by kernel_rfl) Tryd.func5
    (witness_row_at (enc := enc) (C := Tryd.checked) false (laidWorld os) #[.slice none 0 0, .int .u8 0] rfl (by kernel_rfl) (by kernel_rfl) (by kernel_rfl)
      (OpenSpec.preRow_of_cond 8 hx (by kernel_rfl) (fun k hk => by cases hk) (by kernel_rfl) (laid_met os))) ?_
  intro W base args ds gs before hval hW _ _ hsz hL _ _
  exact contract H enc W base args ds gs before hval hW hsz hL
theorem said : Rows.ShaOwnSaid :=
  OpenClaim.holds_of_cond 5 Tryd.f5 rfl rfl rfl rfl rfl rfl rfl ⟨rfl, rfl, rfl, rfl, rfl⟩ rfl rfl rfl rfl rfl (by kernel_rfl) Tryd.func5 (by kernel_rfl)
    (of_decide_eq_true (by kernel_rfl)) (by unfold Func.isWrapper; first | (rw [if_pos (by decide +kernel)]; kernel_rfl) | (rw [if_neg (by decide +kernel)]; exact ⟨rfl, rfl⟩))
    (fun os started H enc _ F => by rw [OpenClaim.pre_eq_preRow]; exact lifted os started H enc F)
theorem plain (f : FuncId) (fn : Func) (hf : Tryd.pinned.checked.prog.funcNamed "shamrock/shamrocklaw06.ShaOwn" = some f) (hfn : Tryd.pinned.checked.prog.funcs[f]? = some fn) :
    false = Tryd.pinned.checked.prog.looks [] ∧ ∀ (j : Nat) t, fn.params[j]? = some t → Tryd.pinned.checked.prog.wantsStandIn t = false := by
  obtain rfl : f = 5 := Option.some.inj ((show Tryd.prog.funcNamed "shamrock/shamrocklaw06.ShaOwn" = some 5 by kernel_rfl).symm.trans hf) |>.symm
  obtain rfl : fn = Tryd.f5 := (Option.some.inj (Tryd.func5.symm.trans hfn)).symm
  refine ⟨by kernel_rfl, fun j t ht => ?_⟩
  rw [Tryd.params5] at ht
  have hm : t ∈ [22, 5] := by simpa using Array.mem_of_getElem? ht
  have hall : ([22, 5].all fun u => !Tryd.prog.wantsStandIn u) = true := by kernel_rfl
  exact (show Tryd.prog.wantsStandIn t = false by simpa using List.all_eq_true.1 hall t hm)
theorem card : Rows.ShaOwnCardSaid :=
  Claim7.holds_tied_plain_at .later [] _ _ _ _ said (fun _ h => by cases h) (by kernel_rfl) (fun _ h => by cases h) shaOwn_row_tie rfl ⟨rfl, rfl⟩ (by kernel_rfl) rfl plain (by kernel_rfl)

end Go.Proofs.YtebaojnckailnaaDoor.shaOwn
namespace Go.Proofs.YtebaojnckailnaaDoor
/-- The statement. -/
theorem shaOwn_holds : Rows.ShaOwnCardSaid := shaOwn.card
#print axioms shaOwn_holds
end Go.Proofs.YtebaojnckailnaaDoor

