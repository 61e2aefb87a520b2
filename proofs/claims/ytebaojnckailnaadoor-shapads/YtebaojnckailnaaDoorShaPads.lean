/- For every input ShaPads returns true, and every argument reads behind the call as it did before: no condition. -/
import Derived.Test.YtebaojnckailnaaDoorCards
import Derived.Test.YtebaojnckailnaaDoorTie
import Derived.ProofKit
import Derived.OpenShut
import Derived.Deep.DeepHandedRow
import Derived.Lib.LaidTab
import Derived.SizedLaws
import Derived.ChangeOld
import Derived.Carry
import Derived.Test.YtebaojnckailnaaDoorShh
import Derived.Test.YtebaojnckailnaaDoorGty
import Derived.Test.YtebaojnckailnaaDoorShs
namespace Go.Proofs.YtebaojnckailnaaDoor.shaPads
open Go.ChangeShapes Go.WideShapes Go.ChangeAt Go.RowKit Go.Shelf Gw Pol

theorem own : ownKnob Tryd.prog.godebug = none := by kernel_rfl
/-- A row that holds the sum of l. -/
def SumIs (l : List Nat) : Value → World → Prop := fun v w => ∃ A c, v = .slice A 32 c ∧ In w w.heap.size A c (Sh.sum l)
theorem SumIs.mono (l : List Nat) : Gt.Mono (SumIs l) := by
  rintro v w w' ⟨A, c, rfl, h⟩ hg
  exact ⟨A, c, rfl, (h.below hg).more hg.size⟩
/-- While the row is filled. -/
def PdRel (w : World) (N : Nat) (i : Value) (wr : World) : Prop := ∃ (k : Nat) (l : List Nat), k ≤ N ∧ i = .int .i64 (k : Int) ∧ l.length = N ∧ Gw.Own wr w.heap.size 5 (some ⟨w.heap.size, 0, none⟩) N l ∧ Below w.heap.size w wr
set_option maxRecDepth 100000 in
set_option maxHeartbeats 1000000 in
theorem walk_nat (N x s : Nat) (hN0 : N < 256) (w : World) (hT : KT w) :
    Calls Tryd.prog 4 #[.int .u8 (N : Int), .int .u8 (x : Int), .int .u8 (s : Int)] w fun e w' => e = .returned (.bool true) ∧ Below w.heap.size w w' := by
  obtain ⟨i0, hi0, hz0, hz1, hz2⟩ := info_parts byte_info
  have hmk := run_make_row' (P := Tryd.prog) 22 5 (.int .u8 0) 1 Tryd.underlying22 byte_info rfl .i64 .i64 N (by omega) (by omega) w
  have HO0 := Lib.hid (Own.made w 5 N (by omega))
  have HK0 := Lib.hid hT
  clear hT
  go_enter Tryd.func4, Tryd.ntmps4
  go_wp2
  go_loopw [8] (PdRel w N) (fun i _ => N - (intOf i).toNat)
  case atStart => exact ⟨0, List.replicate N 0, by omega, rfl, by simp, HO0.out, (Below.refl _ _).alloc (Nat.le_refl _) _⟩
  case round =>
    clear HO0 hmk
    obtain ⟨k, l, hk, rfl, hl, hown, hbel⟩ := hrel
    by_cases hkN : k < N
    · obtain ⟨k8, hk8⟩ : ∃ y, y = k % 256 := ⟨_, rfl⟩
      have m1 : IntKind.u8.wrap (k : Int) = (k8 : Int) := wrapU8 hk8
      obtain ⟨p, hp⟩ : ∃ y, y = k8 * s % 256 := ⟨_, rfl⟩
      obtain ⟨y, hy⟩ : ∃ y, y = (x + p) % 256 := ⟨_, rfl⟩
      have m2 : IntKind.u8.wrap ((k8 : Int) * (s : Int)) = (p : Int) := by rw [← Int.natCast_mul]; exact wrapU8 hp
      have m3 : IntKind.u8.wrap ((x : Int) + (p : Int)) = (y : Int) := by rw [← Int.natCast_add]; exact wrapU8 hy
      have hyb : y < 256 := by rw [hy]; exact Nat.mod_lt _ (by omega)
      have lk : (k : Int) < (N : Int) := by omega
      have hc := hown.cell (k := k) (by rw [hl]; exact hkN)
      have hf := hown.frozen k
      have HPUT := Lib.hid (hown.put (k := k) (by rw [hl]; exact hkN) hyb)
      have HBP := Lib.hid (show Below w.heap.size w (wr.setCell ⟨w.heap.size, k, none⟩ (.int .u8 (y : Int))) from hbel.grown (grown_put (World.grownBy.refl wr (some w.heap.size)) _) hbel.size (fun j e => by injection e with e; omega))
      have HL := Lib.hid hl
      clear hk8 hp hy hl hown hbel
      go_wp2
      go_roundw
      case rel => exact ⟨k + 1, l.set k y, by omega, by go_num, by rw [List.length_set]; exact HL.out, HPUT.out, HBP.out⟩
      case measure => simp [intOf]; omega
    · obtain rfl : N = k := by omega
      have hI : In wr wr.heap.size (some ⟨w.heap.size, 0, none⟩) N l := hown.inn
      have HK := Lib.hid (HK0.out.to hbel)
      have HN := Lib.hid hl.symm
      have HI := Lib.hid hI
      have HBF := Lib.hid hbel
      obtain ⟨g, hg0⟩ : ∃ g, g = w.heap.size := ⟨_, rfl⟩
      rw [← hg0] at hI HI ⊢
      have HR := Lib.hid (show ∀ w5, Below wr.heap.size wr w5 → Calls Tryd.prog 8 #[.slice (some ⟨g, 0, none⟩) N N] w5 fun e w' => ∃ A2 c2, e = .returned (.slice A2 32 c2) ∧ Gw.Own w' w5.heap.size 5 A2 c2 (Sh.sum l) ∧ Below w5.heap.size w5 w' from
        fun w5 hg => by rw [show #[Value.slice (some ⟨g, 0, none⟩) N N] = #[Value.slice (some ⟨g, 0, none⟩) l.length N] by rw [hl]]; exact rsum_any _ N l w5 ((hI.below hg).more hg.size) (by omega))
      obtain ⟨σ, hσ⟩ : ∃ σ, σ = str (Sh.sum l) := ⟨_, rfl⟩
      have HSG := Lib.hid hσ
      have HG0 := Lib.hid hg0.symm
      clear hl hI hσ hown hbel HK0 hg0
      go_wp2
      rename_i K hK
      refine Gt.regionA [Gt.Is (.bool true), Gt.Is (.bool true), Gt.Is (.slice (some ⟨g, 0, none⟩) N N), SumIs l, Gt.Is (.string σ), Gt.Is (.slice (some ⟨g, 0, none⟩) N N), SumIs l, Gt.Is (.string σ), Gt.Is (.bool true), Gt.Is (.bool true), Gt.Is (.bool true)] 37
        [⟨[], [], none⟩, ⟨[(0, 27)], [], none⟩, ⟨[(1, 28)], [7], some (28, true)⟩, ⟨[(1, 28), (2, 29)], [], some (28, true)⟩, ⟨[(1, 28), (3, 30)], [], some (28, true)⟩, ⟨[(1, 28)], [7], some (28, true)⟩, ⟨[(1, 28), (5, 32)], [], some (28, true)⟩, ⟨[(1, 28), (6, 33)], [], some (28, true)⟩, ⟨[(1, 28), (4, 31), (7, 34)], [], some (28, true)⟩, ⟨[(1, 28), (8, 35)], [], none⟩, ⟨[(9, 36)], [], none⟩]
        [(0, 27), (1, 28), (2, 29), (3, 30), (4, 31), (5, 32), (6, 33), (7, 34), (8, 35), (9, 36), (10, 6)] (by kernel_rfl) (by kernel_rfl) (by kernel_rfl) (by kernel_rfl) ?_ ?_ ?_
      · simp only [Gt.Monos]
        repeat' apply And.intro
        all_goals (first | exact trivial | exact Gt.Is.mono _ | exact SumIs.mono _)
      · simp only [Gt.Obs]
        repeat' apply And.intro
        all_goals try exact trivial
        all_goals (
          intro a w5 hg
          have hg' : Below wr.heap.size wr w5 := hg
          simp only [Gt.Pre, Gt.Kept, Gt.Guarded, Gt.tys, List.getD_cons_zero, List.getD_cons_succ, Gt.Is, Nat.zero_add, Nat.reduceAdd]
          intros
          try (refine ⟨fun _ => ?_, fun hne => absurd (by assumption) hne⟩))
        all_goals (first
          | exact Gt.ok_move rfl (by assumption)
          | exact Gt.ok_assign rfl (by assumption)
          | exact Gt.ok_pick rfl (by assumption) (by rw [if_pos rfl]; assumption)
          | (exact Gt.ok_call (f := 6) rfl #[] (by kernel_rfl) (by simp) ((answers_any _ (HK.out.to hg')).mono fun e w6 h => ⟨_, h.1, h.2, rfl⟩))
          | (refine Gt.ok_call (f := 7) rfl #[.slice (some ⟨g, 0, none⟩) N N] (by kernel_rfl) (by simp [*]) ((sum_any (some ⟨g, 0, none⟩) N N l _ HN.out ((HI.out.below hg').more hg'.size) (by rw [← HN.out]; omega) (HK.out.to hg')).mono ?_)
             rintro e w6 ⟨A6, c6, rfl, hown6, hB6⟩
             exact ⟨_, rfl, hB6, A6, c6, rfl, hown6.inn⟩)
          | (refine Gt.ok_call (f := 8) rfl #[.slice (some ⟨g, 0, none⟩) N N] (by kernel_rfl) (by simp [*]) (HR.out w5 hg' |>.mono ?_)
             rintro e w6 ⟨A6, c6, rfl, hown6, hB6⟩
             exact ⟨_, rfl, hB6, A6, c6, rfl, hown6.inn⟩)
          | (rename_i h6 _
             obtain ⟨A6, c6, e6, hI6⟩ := h6
             have k5 := conv_sl (P := Tryd.prog) hI6.sl Tryd.underlying22 Tryd.underlying5 Tryd.underlying9 c6
             rw [Sh.sum_len, ← HSG.out] at k5
             exact Gt.ok_convert rfl e6 k5 rfl)
          | (refine Gt.ok_run ?_ rfl
             simp only [execOp, *]
             go_simp
             done))
      · intro a w5 hg
        have hg' : Below wr.heap.size wr w5 := hg
        simp only [Gt.Pre, Gt.tys, List.getD_cons_zero, List.getD_cons_succ, Gt.Is]
        intro h0 h1 h2 h3 h4 h5 h6 h7 h8 h9 h10
        obtain ⟨A6, c6, e3, _⟩ := h3
        obtain ⟨A7, c7, e6, _⟩ := h6
        show K _ _
        refine hK _ _ ?_
        simp only [Gt.puts, List.foldl_cons, List.foldl_nil, h0, h1, h2, e3, h4, h5, e6, h7, h8, h9, h10]
        simp only [Act.put, List.setIfInBounds_toArray, List.set_cons_zero, List.set_cons_succ]
        go_wp2
        go_ret
        exact ⟨rfl, by first | exact HBF.out.trans (hg'.mono HBF.out.size) | (rw [← HG0.out]; exact HBF.out.trans (hg'.mono HBF.out.size))⟩
theorem walk (a0 a1 a2 : Int) (w : World) (w0 : (Lit.int .u8 a0).wf = true) (w1 : (Lit.int .u8 a1).wf = true) (w2 : (Lit.int .u8 a2).wf = true) (hT : KT w) :
    Calls Tryd.prog 4 #[.int .u8 a0, .int .u8 a1, .int .u8 a2] w fun e w' => e = .returned (.bool true) ∧ Below w.heap.size w w' := by
  obtain ⟨h0, h0'⟩ := bounds_u8 w0
  obtain ⟨h1, _⟩ := bounds_u8 w1
  obtain ⟨h2, _⟩ := bounds_u8 w2
  obtain ⟨a, rfl⟩ := Int.eq_ofNat_of_zero_le h0
  obtain ⟨b, rfl⟩ := Int.eq_ofNat_of_zero_le h1
  obtain ⟨c, rfl⟩ := Int.eq_ofNat_of_zero_le h2
  exact walk_nat a b c (by omega) w hT

theorem gTab : Tryd.prog.globalNamed "shamrock/sha.roundWords" = some 0 := by kernel_rfl
theorem gTabType : (Tryd.prog.globals[0]?).map (·.type) = some 39 := by kernel_rfl
theorem cellsT : Tryd.prog.cellsOf 39 = 64 := by kernel_rfl
theorem cellsE : Tryd.prog.cellsOf 28 = 1 := by kernel_rfl
theorem table {W : World} (h : laidMetH Tryd.prog Rows.shaPadsRow.laid W) : Lib.TabIs Tryd.prog W "shamrock/sha.roundWords" .u32 [1116352408, 1899447441, 3049323471, 3921009573, 961987163, 1508970993, 2453635748, 2870763221, 3624381080, 310598401, 607225278, 1426881987, 1925078388, 2162078206, 2614888103, 3248222580, 3835390401, 4022224774, 264347078, 604807628, 770255983, 1249150122, 1555081692, 1996064986, 2554220882, 2821834349, 2952996808, 3210313671, 3336571891, 3584528711, 113926993, 338241895, 666307205, 773529912, 1294757372, 1396182291, 1695183700, 1986661051, 2177026350, 2456956037, 2730485921, 2820302411, 3259730800, 3345764771, 3516065817, 3600352804, 4094571909, 275423344, 430227734, 506948616, 659060556, 883997877, 958139571, 1322822218, 1537002063, 1747873779, 1955562222, 2024104815, 2227730452, 2361852424, 2428436474, 2756734187, 3204031479, 3329325298] :=
  Lib.tabIs_of_head (rest := []) gTab gTabType Tryd.underlying39 Tryd.underlying28 cellsE cellsT h
/-- The table's cells, as the walks ask them. -/
theorem tabK {W : World} (h : laidMetH Tryd.prog Rows.shaPadsRow.laid W) : KT W := fun t ht => by
  rw [(table h).cell gTab t ht]
  have hall : ∀ t, t < 64 → ([1116352408, 1899447441, 3049323471, 3921009573, 961987163, 1508970993, 2453635748, 2870763221, 3624381080, 310598401, 607225278, 1426881987, 1925078388, 2162078206, 2614888103, 3248222580, 3835390401, 4022224774, 264347078, 604807628, 770255983, 1249150122, 1555081692, 1996064986, 2554220882, 2821834349, 2952996808, 3210313671, 3336571891, 3584528711, 113926993, 338241895, 666307205, 773529912, 1294757372, 1396182291, 1695183700, 1986661051, 2177026350, 2456956037, 2730485921, 2820302411, 3259730800, 3345764771, 3516065817, 3600352804, 4094571909, 275423344, 430227734, 506948616, 659060556, 883997877, 958139571, 1322822218, 1537002063, 1747873779, 1955562222, 2024104815, 2227730452, 2361852424, 2428436474, 2756734187, 3204031479, 3329325298] : List Int).getD t 0 = (Pol.co Sh.kk t : Int) := by decide +kernel
  rw [hall t ht]
set_option maxRecDepth 100000 in
theorem contract (H : Type) (enc : TypeId × Value → H) (W : World) (base : Nat) (args : Array Value) (ds gs : List (DataW H)) (before : List MemPlace)
    (hval0 : ∀ (j : Nat) t v, Tryd.f4.params[j]? = some t → args[j]? = some v → Value.okWide Tryd.prog W .any base t v)
    (hW : DataW.Whole enc Tryd.prog Tryd.f4.params.toList Rows.shaPadsSpec.vars false W args.toList ds gs before)
    (hsz0 : (DataW.weightsEach Tryd.prog (Tryd.f4.params.toList ++ Rows.shaPadsSpec.plain.varTypes Tryd.prog) (ds ++ gs)).all (· ≤ reachBytes) = true) (hL : laidMetH Tryd.prog Rows.shaPadsRow.laid W) :
    Calls Tryd.prog 4 args W fun e W' => ∃ v, e = .returned v ∧ Rows.shaPadsSpec.post enc Tryd.prog Tryd.f4 false true false false W args v W' := by
  have hval : ∀ (j : Nat) t v, Tryd.f4.params[j]? = some t → args[j]? = some v → Value.okWide Tryd.prog W .any base t v := hval0
  have hW' := hW
  obtain ⟨p, q, hA0, hV, rfl, _hfz, _hnd⟩ := hW
  have hA : DataW.TrodAll enc Tryd.prog W 0 (fun _ => true) true Tryd.f4.params.toList args.toList ds p := hA0
  have hsz : (DataW.weightsEach Tryd.prog (Tryd.f4.params.toList ++ Rows.shaPadsSpec.plain.varTypes Tryd.prog) (ds ++ gs)).all (· ≤ reachBytes) = true := hsz0
  rw [Tryd.params4] at hA hval hsz
  obtain ⟨v0, vs0, d0, ds0, p0, q0, hargs, rfl, rfl, h0, r0⟩ := trodAll_cons hA
  obtain ⟨v1, vs1, d1, ds1, p1, q1, rfl, rfl, rfl, h1, r1⟩ := trodAll_cons r0
  obtain ⟨v2, vs2, d2, ds2, p2, q2, rfl, rfl, rfl, h2, r2⟩ := trodAll_cons r1
  obtain ⟨rfl, rfl, rfl⟩ := trodAll_nil r2
  obtain rfl : args = #[v0, v1, v2] := by cases args; simp_all
  obtain ⟨rfl, rfl⟩ := trodVars_none hV
  obtain ⟨a0, rfl, rfl, rfl, w0⟩ := open_int Tryd.underlying5 (hval 0 5 v0 rfl rfl) h0
  obtain ⟨a1, rfl, rfl, rfl, w1⟩ := open_int Tryd.underlying5 (hval 1 5 v1 rfl rfl) h1
  obtain ⟨a2, rfl, rfl, rfl, w2⟩ := open_int Tryd.underlying5 (hval 2 5 v2 rfl rfl) h2
  have hT := tabK hL
  clear hA0 hval0 hsz0 hsz hL
  refine (walk a0 a1 a2 W w0 w1 w2 hT).mono fun e W' ⟨he, bel⟩ => ?_
  subst he
  exact ⟨_, rfl, _, _, _, [], _, [], hW', trodAll_mk1 (shut_bool Tryd.underlying4 _), (trodAll_cons_mk (shut_int Tryd.underlying5 w0) (trodAll_cons_mk (shut_int Tryd.underlying5 w1) (trodAll_cons_mk (shut_int Tryd.underlying5 w2) trodAll_mk0))), rfl, bel.frame _, fun h => by cases h⟩
noncomputable def laidWorld (os : Os) : World :=
  { World.holding Tryd.prog os ⟨#[], #[], []⟩ with heap := (World.holding Tryd.prog os ⟨#[], #[], []⟩).heap.modify 0 fun
      | .cells _ t frozen => .cells #[.int .u32 1116352408, .int .u32 1899447441, .int .u32 3049323471, .int .u32 3921009573, .int .u32 961987163, .int .u32 1508970993, .int .u32 2453635748, .int .u32 2870763221, .int .u32 3624381080, .int .u32 310598401, .int .u32 607225278, .int .u32 1426881987, .int .u32 1925078388, .int .u32 2162078206, .int .u32 2614888103, .int .u32 3248222580, .int .u32 3835390401, .int .u32 4022224774, .int .u32 264347078, .int .u32 604807628, .int .u32 770255983, .int .u32 1249150122, .int .u32 1555081692, .int .u32 1996064986, .int .u32 2554220882, .int .u32 2821834349, .int .u32 2952996808, .int .u32 3210313671, .int .u32 3336571891, .int .u32 3584528711, .int .u32 113926993, .int .u32 338241895, .int .u32 666307205, .int .u32 773529912, .int .u32 1294757372, .int .u32 1396182291, .int .u32 1695183700, .int .u32 1986661051, .int .u32 2177026350, .int .u32 2456956037, .int .u32 2730485921, .int .u32 2820302411, .int .u32 3259730800, .int .u32 3345764771, .int .u32 3516065817, .int .u32 3600352804, .int .u32 4094571909, .int .u32 275423344, .int .u32 430227734, .int .u32 506948616, .int .u32 659060556, .int .u32 883997877, .int .u32 958139571, .int .u32 1322822218, .int .u32 1537002063, .int .u32 1747873779, .int .u32 1955562222, .int .u32 2024104815, .int .u32 2227730452, .int .u32 2361852424, .int .u32 2428436474, .int .u32 2756734187, .int .u32 3204031479, .int .u32 3329325298] t frozen
      | o => o }
set_option maxRecDepth 100000 in
theorem laid_met (os : Os) : laidMet Tryd.prog Rows.shaPadsRow.laid ((laidWorld os).forCall (fun _ _ => 0) ⟨#[], #[.int .u8 0, .int .u8 0, .int .u8 0], []⟩).memory :=
  laidMet_of_run' 8 (by kernel_rfl) (by kernel_rfl)
theorem reads (os : Os) {H : Type} (enc : TypeId × Value → H) : ∃ places, DataW.whole enc Tryd.prog ((laidWorld os).forCall (fun _ _ => 0) ⟨#[], #[.int .u8 0, .int .u8 0, .int .u8 0], []⟩).memory Tryd.f4.params.toList Rows.shaPadsSpec.vars false (#[.int .u8 0, .int .u8 0, .int .u8 0] : Array Value).toList 8 = some ([.lit (.int .u8 0), .lit (.int .u8 0), .lit (.int .u8 0)], [], places) :=
  ⟨[], by kernel_rfl⟩
set_option maxRecDepth 100000 in
theorem lifted (os : Os) (started : os.Started) (H : Type) (enc : TypeId × Value → H) (F : Stop.Interp) :
    ReturnsInHanded {} Tryd.checked os 4 .any ((OpenSpec.ofChange Rows.shaPadsSpec).preRow enc Tryd.prog Tryd.f4 Rows.shaPadsRow.domain false Rows.shaPadsRow.laid) (((OpenSpec.ofChange Rows.shaPadsSpec).at F).post enc Tryd.prog Tryd.f4 false true false false) := by
  obtain ⟨places, hx⟩ := reads os enc
  refine returnsInHanded_of_row (C := Tryd.checked) (s := OpenSpec.ofChange Rows.shaPadsSpec) own started (by kernel_rfl) Tryd.func4
    (witness_row_at (enc := enc) (C := Tryd.checked) false (laidWorld os) #[.int .u8 0, .int .u8 0, .int .u8 0] rfl (by kernel_rfl) (by kernel_rfl) (by kernel_rfl)
      (OpenSpec.preRow_of_cond 8 hx (by kernel_rfl) (fun k hk => by cases hk) (by kernel_rfl) (laid_met os))) ?_
  intro W base args ds gs before hval hW _ _ hsz hL _ _
  exact contract H enc W base args ds gs before hval hW hsz hL
theorem said : Rows.ShaPadsSaid :=
  OpenClaim.holds_of_cond 4 Tryd.f4 rfl rfl rfl rfl rfl rfl rfl ⟨rfl, rfl, rfl, rfl, rfl⟩ rfl rfl rfl rfl rfl (by kernel_rfl) Tryd.func4 (by kernel_rfl)
    (of_decide_eq_true (by kernel_rfl)) (by unfold Func.isWrapper; first | (rw [if_pos (by decide +kernel)]; kernel_rfl) | (rw [if_neg (by decide +kernel)]; exact ⟨rfl, rfl⟩))
    (fun os started H enc _ F => by rw [OpenClaim.pre_eq_preRow]; exact lifted os started H enc F)
theorem plain (f : FuncId) (fn : Func) (hf : Tryd.pinned.checked.prog.funcNamed "shamrock/shamrocklaw06.ShaPads" = some f) (hfn : Tryd.pinned.checked.prog.funcs[f]? = some fn) :
    false = Tryd.pinned.checked.prog.looks [] ∧ ∀ (j : Nat) t, fn.params[j]? = some t → Tryd.pinned.checked.prog.wantsStandIn t = false := by
  obtain rfl : f = 4 := Option.some.inj ((show Tryd.prog.funcNamed "shamrock/shamrocklaw06.ShaPads" = some 4 by kernel_rfl).symm.trans hf) |>.symm
  obtain rfl : fn = Tryd.f4 := (Option.some.inj (Tryd.func4.symm.trans hfn)).symm
  refine ⟨by kernel_rfl, fun j t ht => ?_⟩
  rw [Tryd.params4] at ht
  have hm : t ∈ [5, 5, 5] := by simpa using Array.mem_of_getElem? ht
  have hall : ([5, 5, 5].all fun u => !Tryd.prog.wantsStandIn u) = true := by kernel_rfl
  exact (show Tryd.prog.wantsStandIn t = false by simpa using List.all_eq_true.1 hall t hm)
theorem card : Rows.ShaPadsCardSaid :=
  Claim7.holds_tied_plain_at .later [] _ _ _ _ said (fun _ h => by cases h) (by kernel_rfl) (fun _ h => by cases h) shaPads_row_tie rfl ⟨rfl, rfl⟩ (by kernel_rfl) rfl plain (by kernel_rfl)

end Go.Proofs.YtebaojnckailnaaDoor.shaPads
namespace Go.Proofs.YtebaojnckailnaaDoor
/-- The statement. -/
theorem shaPads_holds : Rows.ShaPadsCardSaid := shaPads.card
#print axioms shaPads_holds
end Go.Proofs.YtebaojnckailnaaDoor

