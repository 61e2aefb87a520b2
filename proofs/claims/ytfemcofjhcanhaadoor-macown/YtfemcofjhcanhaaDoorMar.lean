/- What mac's Mac does: the mark of bytes by a key. -/
import Derived.Test.YtfemcofjhcanhaaDoorMap
import Derived.Test.YtfemcofjhcanhaaDoorGty
namespace Gw
open Go Go.RowKit Go.Shelf Pol
theorem Ba.load {P : Program} {w : World} {g n : Nat} {t e : TypeId} {L : List Nat} (h : Ba w g t L) (hu : P.underlying t = some (.array n e)) (hi : (P.info? t).map (·.size) = some n) (hn : n = L.length) :
    (Instr.loadAt t (.pointer (some ⟨g, 0, none⟩))).run P w = .ok (.agg (bys L).toArray) w := by
  simp only [Instr.loadAt, Instr.sureAddr, Sem.run_bind, Sem.run_pure, Result.andThen]
  exact run_loadVar_row w g t t _ _ _ h hu rfl (by rw [bysA_size, ← hn]; exact hi)
/-- A load as one operation of a drawn region. -/
theorem ok_load {P : Program} {w : World} {V : Value → World → Prop} {ρ : Operand → Value} {o : Oper} {ty : TypeId} {x : Operand} {p u : Value} (ho : o.op = .load ty x) (hx : ρ x = p) (hr : (Instr.loadAt ty p).run P w = .ok u w) (hv : V u w) : Gt.StepOK P Gt.Gr V w ((execOp ρ o).run P w) := by
  refine Gt.ok_run (v := u) ?_ hv
  unfold execOp
  simp only [ho, hx, Sem.run_bind, hr]
  rfl
theorem put_none (a : Act) (v : Value) : a.put none v = a := rfl
end Gw
namespace Go.Proofs.YtfemcofjhcanhaaDoor
open Go.RowKit Go.Shelf Gw Pol Sh
/-- A row of the call's own (from block 'base' on) that holds l, 32 bytes. -/
def MacIs (base : Nat) (l : List Nat) : Value → World → Prop := fun v w => ∃ A c, v = .slice A 32 c ∧ Gw.Own w base 5 A c l
theorem MacIs.mono (base : Nat) (l : List Nat) : Gt.Mono (MacIs base l) := by
  rintro v w w' ⟨A, c, rfl, h⟩ hg
  exact ⟨A, c, rfl, h.kept hg⟩
set_option maxRecDepth 100000 in
set_option maxHeartbeats 2000000 in
theorem mac_any (A : Option Addr) (c n : Nat) (k : List Nat) (A' : Option Addr) (c' n' : Nat) (b : List Nat) (w : World) (hn : n = k.length) (hn' : n' = b.length) (hI : In w w.heap.size A c k) (hI' : In w w.heap.size A' c' b) (hcm : k.length ≤ 140737488355328) (hcm' : b.length ≤ 140737488355264) (hT : KT w) :
    Calls Tryd.prog 8 #[.slice A n c, .slice A' n' c'] w fun e w' => ∃ A2 c2, e = .returned (.slice A2 32 c2) ∧ Gw.Own w' w.heap.size 5 A2 c2 (hm k b) ∧ Below w.heap.size w w' := by
  obtain ⟨K, hK⟩ : ∃ K, K = mb k := ⟨_, rfl⟩
  have HKL := Lib.hid (show K.length = 64 by rw [hK]; exact mb_len k)
  have HKB := Lib.hid (show BB K by rw [hK]; exact mb_bb hI.bb)
  have HHM := Lib.hid (show hm k b = sum (mp K 92 ++ sum (mp K 54 ++ b)) by rw [hm, hK])
  have HT := Lib.hid (keyBlock_any A c n k w hn hI hcm hT)
  rw [← hK] at HT
  have HIA := Lib.hid (show (Tryd.prog.info? 28).map (·.size) = some (bys K).toArray.size by rw [bysA_size, HKL.out]; exact arrB_info)
  have HSZ := Lib.hid (show (bys z64).toArray.size = (bys K).toArray.size by rw [bysA_size, bysA_size, HKL.out]; rfl)
  have HN' := Lib.hid hn'
  have HKT := Lib.hid hT
  have HII := Lib.hid hI'
  have hzz := zeroB
  clear hK hn hn' hI hI' hcm hT
  go_enter Tryd.func8, Tryd.ntmps8
  go_wp2_with fail
  refine HT.out.mono ?_
  rintro e w1 ⟨rfl, hB1⟩
  have hs1 := hB1.size
  have HNEW := Lib.hid (Ba.new w1 28 z64)
  have HROW := Lib.hid (show Ba ((w1.alloc (.cells (bys z64).toArray 28)).setRow w1.heap.size (bys K).toArray) w1.heap.size 28 K from setRow_heap _ _ _ _ _ _ HNEW.out)
  have HB2 := Lib.hid (show Below w.heap.size w ((w1.alloc (.cells (bys z64).toArray 28)).setRow w1.heap.size (bys K).toArray) from below_setRow (hB1.alloc hs1 _) hs1 _)
  have HI' := Lib.hid ((HII.out.below HB2.out).more HB2.out.size)
  have HK2 := Lib.hid (HKT.out.to HB2.out)
  clear hB1 hs1 HII HKT HT
  go_wp2_with (first | (refine wpList_store_row rfl 28 (.tmp 5) (.tmp 7) rfl _ _ rfl rfl _ _ HNEW.out HIA.out HSZ.out (bysA_one _) ?_) | fail)
  obtain ⟨w2, hw2⟩ : ∃ w2, w2 = (w1.alloc (.cells (bys z64).toArray 28)).setRow w1.heap.size (bys K).toArray := ⟨_, rfl⟩
  rw [← hw2] at HROW HB2 HI' HK2 ⊢
  clear hw2 HNEW
  rw [put_none]
  rename_i K1 hK1
  refine Gt.regionA [Gt.Is (.agg (bys K).toArray), Gt.Is (.agg (bys K).toArray), Gt.Is (.slice A' n' c'), MacIs w2.heap.size (Sh.sum (Sh.mp K 54 ++ b)), MacIs w2.heap.size (Sh.sum (Sh.mp K 92 ++ Sh.sum (Sh.mp K 54 ++ b))), MacIs w2.heap.size (Sh.sum (Sh.mp K 92 ++ Sh.sum (Sh.mp K 54 ++ b)))] 13
    [⟨[], [5], none⟩, ⟨[], [5], none⟩, ⟨[], [1], none⟩, ⟨[(1, 9), (2, 10)], [], none⟩, ⟨[(0, 8), (3, 11)], [], none⟩, ⟨[(4, 12)], [], none⟩]
    [(0, 8), (1, 9), (2, 10), (3, 11), (4, 12), (5, 4)] (by kernel_rfl) (by kernel_rfl) (by kernel_rfl) (by kernel_rfl) ?_ ?_ ?_
  · simp only [Gt.Monos]
    repeat' apply And.intro
    all_goals (first | exact trivial | exact Gt.Is.mono _ | exact MacIs.mono _ _)
  · simp only [Gt.Obs]
    repeat' apply And.intro
    all_goals try exact trivial
    all_goals (
      intro a w5 hg
      have hg' : Below w2.heap.size w2 w5 := hg
      simp only [Gt.Pre, Gt.Kept, Gt.Guarded, Gt.tys, List.getD_cons_zero, List.getD_cons_succ, Gt.Is, Nat.zero_add, Nat.reduceAdd]
      intros
      try (refine ⟨fun _ => ?_, fun hne => absurd (by assumption) hne⟩))
    all_goals (first
      | exact Gt.ok_move rfl (by assumption)
      | exact Gt.ok_assign rfl (by assumption)
      | exact Gt.ok_pick rfl (by assumption) (by rw [if_pos rfl]; assumption)
      | (exact ok_load (p := .pointer (some ⟨w1.heap.size, 0, none⟩)) rfl (by assumption) ((HROW.out.below hg' HROW.out.lt).load (P := Tryd.prog) Tryd.underlying28 arrB_info HKL.out.symm) rfl)
      | (refine Gt.ok_call (f := 13) rfl #[.agg (bys K).toArray, .int .u8 ((54 : Nat) : Int), .slice A' n' c'] (by kernel_rfl) (by simp only [List.map_toArray, List.map_cons, List.map_nil, *]; rfl) ((padded_any K HKL.out HKB.out 54 (by omega) A' c' n' b _ HN'.out ((HI'.out.below hg').more hg'.size) hcm' (HK2.out.to hg')).mono ?_)
         rintro e w6 ⟨A6, c6, rfl, hown6, hB6⟩
         exact ⟨_, rfl, hB6, A6, c6, rfl, hown6.base hg'.size⟩)
      | (rename_i _ h6
         obtain ⟨A6, c6, e6, hO6⟩ := h6
         refine Gt.ok_call (f := 13) rfl #[.agg (bys K).toArray, .int .u8 ((92 : Nat) : Int), .slice A6 32 c6] (by kernel_rfl) (by simp only [List.map_toArray, List.map_cons, List.map_nil, *]; rfl) ((padded_any K HKL.out HKB.out 92 (by omega) A6 c6 32 (Sh.sum (Sh.mp K 54 ++ b)) _ (Sh.sum_len _).symm hO6.inn (by rw [Sh.sum_len]; omega) (HK2.out.to hg')).mono ?_)
         rintro e w6 ⟨A7, c7, rfl, hown7, hB7⟩
         exact ⟨_, rfl, hB7, A7, c7, rfl, hown7.base hg'.size⟩))
  · intro a w5 hg
    have hg' : Below w2.heap.size w2 w5 := hg
    simp only [Gt.Pre, Gt.tys, List.getD_cons_zero, List.getD_cons_succ, Gt.Is]
    intro h0 h1 h2 h3 h4 h5
    obtain ⟨A6, c6, e3, _⟩ := h3
    obtain ⟨A7, c7, e4, _⟩ := h4
    obtain ⟨A8, c8, e5, hO8⟩ := h5
    have HB8 := Lib.hid (HB2.out.trans (hg'.mono HB2.out.size))
    show K1 _ _
    refine hK1 _ _ ?_
    simp only [Gt.puts, List.foldl_cons, List.foldl_nil, h0, h1, h2, e3, e4, e5]
    simp only [Act.put, List.setIfInBounds_toArray, List.set_cons_zero, List.set_cons_succ]
    go_wp2
    go_ret
    exact ⟨A8, c8, rfl, by rw [HHM.out]; exact hO8.base HB2.out.size, HB8.out⟩
end Go.Proofs.YtfemcofjhcanhaaDoor
