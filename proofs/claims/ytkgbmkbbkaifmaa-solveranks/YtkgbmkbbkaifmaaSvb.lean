/- What solve's beside does: a copy of rows, with a byte behind each, in memory of its own. -/
import Derived.Test.YtkgbmkbbkaifmaaSva
import Derived.Test.YtkgbmkbbkaifmaaClo
namespace Gw
open Go Go.RowKit Go.Shelf
/-- A call of a named function as one step of a region that leaves its order open. -/
theorem step_call {P : Program} {w : World} {ops : Array Oper} {o : Oper} {a : Act} {K : Act → World → Prop} {Q : Exit → Act → World → Prop} {E : Prop} (hgd : o.guard = none) (f : FuncId) (xs : Array Operand) (ts : Array TypeId)
    (ho : o.op = .call { callee := .value (.func f), args := xs, argTypes := ts }) (vs : Array Value) (hen : (callFunc f vs).run P w = .ok (.enter f vs) w) (hv : xs.map a.eval = vs) {Z : Ending → World → Prop} (hc : Calls P f vs w Z)
    (h : ∀ e w', Z e w' → ∃ v, e = .returned v ∧ K (a.put o.dst v) w') : if Region.wanted o (yielded ops a.tmps) = true then Oper.wp P o a w K Q else E := by
  have hw : Region.wanted o (yielded ops a.tmps) = true := by simp [Region.wanted, hgd]
  rw [if_pos hw]
  obtain ⟨dst, op, ty, pos, after, guard⟩ := o
  simp only at ho
  subst ho
  unfold Oper.wp
  rw [execOp_call_go, hv]
  have e : #[] ++ vs ++ #[] = vs := by simp
  rw [e, hen, Oper.upon_enter]
  refine hc.mono fun e w' he => ?_
  obtain ⟨v, rfl, hk⟩ := h e w' he
  exact hk
theorem Own.row {w : World} {base : Nat} {e : TypeId} {g c : Nat} {l : List Nat} (h : Own w base e (some ⟨g, 0, none⟩) c l) : Row w g l.length (fun j => .int .u8 (Pol.co l j : Int)) := fun o ho => ⟨h.cell ho, h.frozen o⟩
/-- The first k rows of a table are laid. -/
structure Part (w wr : World) (g : Nat) (M : Sv.Mx) (R n k : Nat) (bs cp : Nat → Nat) : Prop where
  out : Row wr g R (fun i => if i < k then .slice (some ⟨bs i, 0, none⟩) n (cp i) else .slice none 0 0)
  inn : ∀ i, i < k → Row wr (bs i) n (fun j => .int .u8 (M i j : Int))
  inj : ∀ i j, i < k → j < k → bs i = bs j → i = j
  lt : g < wr.heap.size ∧ w.heap.size ≤ g
  blo : ∀ i, i < k → g < bs i ∧ bs i < wr.heap.size
  cap : ∀ i, i < k → n ≤ cp i
  bel : Below w.heap.size w wr
theorem Part.step {w wr w3 : World} {g : Nat} {M : Sv.Mx} {R n k : Nat} {bs cp : Nat → Nat} (h : Part w wr g M R n k bs cp) (hk : k < R) (hb : Below wr.heap.size wr w3) {e : TypeId} {g2 c2 : Nat} {l : List Nat}
    (ho : Own w3 wr.heap.size e (some ⟨g2, 0, none⟩) c2 l) (hl : l.length = n) (hM : ∀ j, j < n → M k j = Pol.co l j) :
    Part w (w3.setCell ⟨g, k, none⟩ (.slice (some ⟨g2, 0, none⟩) n c2)) g M R n (k + 1) (fun i => if i = k then g2 else bs i) (fun i => if i = k then c2 else cp i) := by
  have hlt := h.lt
  have hg2 := ho.lt
  have hsz := hb.size
  have hcap := ho.cap
  have hsz2 : (w3.setCell ⟨g, k, none⟩ (.slice (some ⟨g2, 0, none⟩) n c2)).heap.size = w3.heap.size := by simp [World.setCell]
  refine ⟨((h.out.below hb hlt.1).set hk _).congr fun i hi => ?_, fun i hi => ?_, fun i j hi hj e => ?_, ⟨by omega, hlt.2⟩, fun i hi => ?_, fun i hi => ?_, ?_⟩
  · by_cases e : i = k
    · subst e; simp
    · simp only [if_neg e]
      by_cases e2 : i < k
      · rw [if_pos e2, if_pos (by omega)]
      · rw [if_neg e2, if_neg (by omega)]
  · by_cases e : i = k
    · subst e
      simp only [if_true]
      refine Row.other ?_ (by omega) _
      have hr := ho.row
      rw [hl] at hr
      exact hr.congr fun j hj => by rw [hM j hj]
    · simp only [if_neg e]
      have hbl := h.blo i (by omega)
      exact ((h.inn i (by omega)).below hb hbl.2).other (by omega) _
  · by_cases e1 : i = k
    · by_cases e2 : j = k
      · omega
      · simp only [if_pos e1, if_neg e2] at e; have := h.blo j (by omega); omega
    · by_cases e2 : j = k
      · simp only [if_neg e1, if_pos e2] at e; have := h.blo i (by omega); omega
      · simp only [if_neg e1, if_neg e2] at e; exact h.inj i j (by omega) (by omega) e
  · by_cases e : i = k
    · simp only [if_pos e]; omega
    · simp only [if_neg e]; have := h.blo i (by omega); omega
  · by_cases e : i = k
    · simp only [if_pos e]; omega
    · simp only [if_neg e]; exact h.cap i (by omega)
  · exact (h.bel.trans (hb.mono h.bel.size)).setCell (p := ⟨g, k, none⟩) hlt.2 _
theorem Part.done {w wr : World} {g : Nat} {M : Sv.Mx} {R n : Nat} {bs cp : Nat → Nat} (h : Part w wr g M R n R bs cp) : Tab wr w.heap.size wr.heap.size g bs cp M R n :=
  ⟨h.out.congr fun i hi => by rw [if_pos hi], h.inn, h.inj, fun i hi => by have := h.blo i hi; omega, ⟨h.lt.2, h.lt.1⟩, fun i hi => by have := h.blo i hi; have := h.lt; omega, h.cap, Nat.le_refl _⟩
theorem made_row (w : World) (z : Value) (e : TypeId) (n : Nat) : Row (w.alloc (.cells (madeCells #[z] n) e)) w.heap.size n (fun _ => z) :=
  Row.new w _ e n _ fun o ho => by simp [madeCells, Nat.mod_one, ho]
end Gw
namespace Go.Proofs.Ytkgbmkbbkaifmaa
open Go.RowKit Go.Shelf Gw Pol

theorem prow_info : (Try.prog.info? 23).map (fun i => (i.zero, i.size, i.bytes)) = some (some (.slice none 0 0), 1, 24) := by kernel_rfl

def BsRel (w : World) (g R n : Nat) (M : Sv.Mx) (i : Value) (wr : World) : Prop :=
  ∃ (k : Nat) (bs cp : Nat → Nat), k ≤ R ∧ i = .int .i64 (k : Int) ∧ Part w wr g M R (n + 1) k bs cp

set_option maxRecDepth 100000 in
set_option maxHeartbeats 4000000 in
theorem beside_any (A Ab : Option Addr) (c R n cb : Nat) (A' : Nat → Option Addr) (c' : Nat → Nat) (l : Nat → List Nat) (b : List Nat) (w : World) (h : MIn w w.heap.size A c R A' c' l) (hI : In w w.heap.size Ab cb b)
    (hn : ∀ i, i < R → (l i).length = n) (hb : b.length = R) (hR : R ≤ 4294967296) (hnm : n ≤ 4294967296) :
    Calls Try.prog 19 #[.slice A R c, .slice Ab R cb] w fun e w' =>
      ∃ g bs cp, e = .returned (.slice (some ⟨g, 0, none⟩) R R) ∧ Tab w' w.heap.size w'.heap.size g bs cp (Sv.aug n (fun i j => co (l i) j) (fun i => co b i)) R (n + 1) ∧ Below w.heap.size w w' := by
  obtain ⟨i0, hi0, hz0, hz1, hz2⟩ := info_parts pbyte_info
  have hcap := h.cap
  have hmk := run_make_row' (P := Try.prog) 22 23 (.slice none 0 0) 24 Try.underlying22 prow_info rfl .i64 .i64 R (by omega) (by omega)
  have HN := Lib.hid hn
  have HB := Lib.hid hb
  clear hn hb
  go_enter Try.func19, Try.ntmps19
  go_wp2
  clear hmk
  have hb0 : Below w.heap.size w (w.alloc (.cells (madeCells #[.slice none 0 0] R) 23)) := (Below.refl _ _).alloc (Nat.le_refl _) _
  have hr0 := made_row w (.slice none 0 0) 23 R
  go_loopw [13] (BsRel w w.heap.size R n (Sv.aug n (fun i j => co (l i) j) (fun i => co b i))) (fun i _ => R - (intOf i).toNat)
  case atStart => exact ⟨0, fun _ => 0, fun _ => 0, Nat.zero_le _, rfl, ⟨hr0.congr fun i _ => by simp, fun i hi => by omega, fun i j hi => by omega, ⟨by simp, Nat.le_refl _⟩, fun i hi => by omega, fun i hi => by omega, hb0⟩⟩
  case round =>
    clear hb0 hr0
    obtain ⟨k, bs, cp, hk, rfl, hP⟩ := hrel
    by_cases hlt : k < R
    · have hs := hP.bel.size
      obtain ⟨b0, off0, rfl, hb0, hc0, hIk⟩ := (h.below hP.bel).rd k hlt
      obtain ⟨y, bb, ob, hy, hy2, rfl, hbb, hcb⟩ := (hI.sl.below hP.bel).at_ (k := k) (by rw [HB.out]; exact hlt)
      have hcap2 := hI.cap
      rw [HB.out] at hcap2
      rw [HN.out k hlt] at hc0
      have hcg := (hP.out k hlt).1
      have hfg := (hP.out k hlt).2
      simp only [Nat.lt_irrefl, if_false] at hcg
      have HC : Hid (∀ W, In W W.heap.size (A' k) (c' k) (l k) → Calls Try.prog 23 #[.slice (A' k) n (c' k)] W fun e w' => ∃ A2 c2, e = .returned (.slice A2 n c2) ∧ Gw.Own w' W.heap.size 5 A2 c2 (l k) ∧ Below W.heap.size W w') := Lib.hid fun W hW => by
        have := clone_any (A' k) (c' k) (l k) W hW (by rw [HN.out k hlt]; omega)
        rw [HN.out k hlt] at this
        exact this
      have HIk := Lib.hid hIk
      have HY := Lib.hid hy
      have HP := Lib.hid hP
      clear hIk hy hP
      go_wp2
      have HLN : Hid ((l k ++ [y]).length = n + 1) := Lib.hid (by rw [List.length_append, HN.out k hlt]; rfl)
      go_region_law (first
        | (refine step_call rfl 23 _ _ rfl #[.slice (A' k) n (c' k)] (by kernel_rfl) (by first | rfl | (simp [Act.eval]; done) | (simp [Act.eval, Act.put]; done)) (HC.out _ ?_) ?_
           · first | exact (HIk.out.drewN 1).more hs | exact ((HIk.out.alloc hs _).drewN 1).more (by show _ ≤ (wr.alloc _).heap.size; rw [World.size_alloc]; omega)
           rintro e w2 ⟨A2, c2, rfl, hown2, hbel2⟩
           have hB2 : Below wr.heap.size wr w2 := by first | exact drewN_below (n := 1) hbel2 | exact (Gw.Below.drewN ((Below.refl wr.heap.size wr).alloc (Nat.le_refl _) _) 1).trans (hbel2.mono (by show _ ≤ (wr.alloc _).heap.size; rw [World.size_alloc]; omega))
           have hO2 : Gw.Own w2 wr.heap.size 5 A2 c2 (l k) := by first | exact hown2 | exact hown2.base (by show _ ≤ (wr.alloc _).heap.size; rw [World.size_alloc]; omega)
           have hcb2 := (hB2.cell (p := ⟨bb, ob + k, none⟩) (by show bb < _; omega)).trans hcb
           refine ⟨_, rfl, ?_⟩)
        | (refine step_app rfl (.tmp 21) (.tmp 26) 23 rfl wr.heap.size 5 i0 _ Try.underlying23 hi0 hz0 hz1 hz2 rfl A2 n c2 (l k) (by first | rfl | (simp [Act.eval]; done) | (simp [Act.eval, Act.put]; done)) (HN.out k hlt).symm (hO2.alloc _) (w2.heap.size + 1) (some ⟨w2.heap.size, 0, none⟩) 1 1 [y] (by first | rfl | (simp [Act.eval]; done) | (simp [Act.eval, Act.put]; done)) rfl (fun h => by cases h) (Sl.one w2 5 y hy2) (by rw [HN.out k hlt]; simp; omega) (by rw [World.size_alloc]; exact Nat.le_succ_of_le hB2.size) ?_
           intro A3 c3 w3 hown3 hgr3
           rw [HLN.out]
           have hB3 : Below wr.heap.size wr w3 := below_app hB2 hB2.size hO2 hgr3
           obtain ⟨g2, rfl, hg2, _⟩ := Own.store hown3 (k := 0) (by rw [HLN.out]; omega)
           have hcg3 := (hB3.cell (p := ⟨w.heap.size, k, none⟩) HP.out.lt.1).trans hcg
           have hfg3 := (hB3.frozen (p := ⟨w.heap.size, k, none⟩) HP.out.lt.1).trans hfg)
        | (refine step_app rfl (.tmp 21) (.tmp 26) 23 rfl wr.heap.size 5 i0 _ Try.underlying23 hi0 hz0 hz1 hz2 rfl A2 n c2 (l k) (by first | rfl | (simp [Act.eval]; done) | (simp [Act.eval, Act.put]; done)) (HN.out k hlt).symm hO2 (wr.heap.size + 1) (some ⟨wr.heap.size, 0, none⟩) 1 1 [y] (by first | rfl | (simp [Act.eval]; done) | (simp [Act.eval, Act.put]; done)) rfl (fun h => by cases h) (((Sl.one wr 5 y hy2).drewN 1).below (hbel2.mono (by show _ ≤ (wr.alloc _).heap.size; rw [World.size_alloc]; omega))) (by rw [HN.out k hlt]; simp; omega) hB2.size ?_
           intro A3 c3 w3 hown3 hgr3
           rw [HLN.out]
           have hB3 : Below wr.heap.size wr w3 := below_app0 hB2 hB2.size hO2 hgr3
           obtain ⟨g2, rfl, hg2, _⟩ := Own.store hown3 (k := 0) (by rw [HLN.out]; omega)
           have hcg3 := (hB3.cell (p := ⟨w.heap.size, k, none⟩) HP.out.lt.1).trans hcg
           have hfg3 := (hB3.frozen (p := ⟨w.heap.size, k, none⟩) HP.out.lt.1).trans hfg))
      all_goals (
        have HS := Lib.hid (HP.out.step hlt hB3 hown3 HLN.out (fun j hj => by
          unfold Sv.aug
          by_cases e : j < n
          · rw [if_pos e]; simp [co, List.getElem?_append_left (show j < (l k).length by rw [HN.out k hlt]; exact e)]
          · have ej : j = (l k).length := by rw [HN.out k hlt]; omega
            rw [if_neg e, ej]; simp [co, HY.out]))
        clear hcg3 hfg3 hcg hfg hown3 hgr3 hO2 hB2 hbel2 hcb2 hown2 hcb hc0
        go_wp2
        go_roundw
        case rel => exact ⟨k + 1, _, _, by omega, by go_num, HS.out⟩
        case measure => simp [intOf]; omega)
    · have ek : k = R := by omega
      subst ek
      have HD := Lib.hid hP.done
      have HB2 := Lib.hid hP.bel
      clear hP
      go_wp2
      go_ret
      exact ⟨_, bs, cp, rfl, HD.out, HB2.out⟩
end Go.Proofs.Ytkgbmkbbkaifmaa
