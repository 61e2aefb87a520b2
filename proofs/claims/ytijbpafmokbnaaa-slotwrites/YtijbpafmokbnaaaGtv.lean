/- A region that leaves its order open, where a few operations turn the world and come one behind the other, while others may lay new memory at any time: of the world a predicate for each stage, of each operation's value a predicate that all that is turned there bears. The first h operations in whatever order, then the rest, one behind the other. -/
import Derived.Test.YtijbpafmokbnaaaGtw
namespace Gt
open Go Go.RowKit
def ObV (P : Program) (ix lo hi : List Nat) (R : World → World → Prop) (Wp : Nat → World → Prop) (T : Nat → Value → World → Prop) (a0 : Act) (i : Nat) (o : Oper) (p : Plan) : Prop :=
  (ix.contains i = false → ∀ k, at0 lo i ≤ k → k ≤ at0 hi i → ∀ a w, Wp k w → Pre T a w p.ds (Kept a a0 p.ks (Guarded a p.gd (StepOK P (fun w w' => Wp k w' ∧ R w w') (T i) w ((execOp a.eval o).run P w)) (T i undef w)))) ∧
  (ix.contains i = true → ∀ y, at0 ix y = i → y < ix.length → ∀ a w, Wp y w → Pre T a w p.ds (Kept a a0 p.ks (Guarded a p.gd (StepOK P (fun w w' => Wp (y + 1) w' ∧ R w w') (T i) w ((execOp a.eval o).run P w)) False)))
def ObsV (P : Program) (ix lo hi : List Nat) (R : World → World → Prop) (Wp : Nat → World → Prop) (T : Nat → Value → World → Prop) (a0 : Act) : Nat → List Oper → List Plan → Prop
  | i, o :: t, p :: ps => ObV P ix lo hi R Wp T a0 i o p ∧ ObsV P ix lo hi R Wp T a0 (i + 1) t ps
  | _, _, _ => True
/-- What R bears each value bears. -/
def MonosR (R : World → World → Prop) : List (Value → World → Prop) → Prop
  | [] => True
  | V :: t => (∀ v w w', V v w → R w w' → V v w') ∧ MonosR R t
theorem monosR_at {R : World → World → Prop} : ∀ {Ts : List (Value → World → Prop)}, MonosR R Ts → ∀ i v w w', tys Ts i v w → R w w' → tys Ts i v w'
  | [], _, _, _, _, _, _, _ => trivial
  | _ :: _, h, 0, v, w, w', hv, hg => h.1 v w w' hv hg
  | _ :: _, h, i + 1, v, w, w', hv, hg => monosR_at h.2 i v w w' hv hg
section
variable {P : Program} {ops : Array Oper} {ix lo hi : List Nat} {R : World → World → Prop} {Wp : Nat → World → Prop} {T : Nat → Value → World → Prop} {a0 : Act}
theorem obsV_at {t : List Oper} : ∀ {plan : List Plan} {k : Nat}, ObsV P ix lo hi R Wp T a0 k t plan → ∀ {i : Nat} {o : Oper} {p : Plan}, t[i]? = some o → plan[i]? = some p → ObV P ix lo hi R Wp T a0 (k + i) o p := by
  induction t with
  | nil => intro plan k _ i o p h; simp at h
  | cons x t ih =>
    intro plan k h i o p h1 h2
    cases plan with
    | nil => simp at h2
    | cons q ps =>
      cases i with
      | zero => simp at h1 h2; subst h1 h2; exact h.1
      | succ i =>
        have := ih h.2 (i := i) (by simpa using h1) (by simpa using h2)
        rw [show k + (i + 1) = k + 1 + i from by omega]; exact this
theorem op_ofV {Q : Exit → Act → World → Prop} {K : Act → World → Prop} {n i k : Nat} {o : Oper} {p : Plan} {s : Array Bool} {a : Act} {w : World} (hW : seqW ops ix lo hi = true)
    (hmono : ∀ j v w w', T j v w → R w w' → T j v w') (hn : a0.tmps.size = n)
    (inv : InvW ops ix lo Wp T a0 s a w k) (hi' : i ∈ Region.ready .any ops s) (ho : ops[i]? = some o) (hb : opB ops n i o p = true)
    (hob1 : ObV P ix lo hi R Wp T a0 i o p) (hK : ∀ v w' k', InvW ops ix lo Wp T a0 (s.setIfInBounds i true) (a.put o.dst v) w' k' → K (a.put o.dst v) w') : wpOp P ops Q i K a w := by
  by_cases hx : ix.contains i = true
  · obtain ⟨y, hy, hyi⟩ := contains_at hx
    have hky : k = y := inv.turn hW hy (by rw [hyi]; exact hi')
    subst hky
    have h := asked hb (inv.known hi' ho hb (hob1.2 hx k hyi hy a w inv.wp))
    have hstep : ∀ v w', Wp (k + 1) w' ∧ R w w' → T i v w' → InvW ops ix lo Wp T a0 (s.setIfInBounds i true) (a.put o.dst v) w' (k + 1) := fun v w' h1 h2 =>
      inv.step hW (fun j _ _ v hv => hmono j v w w' hv h1.2) (.inr ⟨k, hy, hyi, rfl, rfl⟩) hn hi' ho hb h1.1 h2
    unfold wpOp
    simp only [ho]
    split at h
    · rename_i hw
      rw [if_pos hw]
      left
      unfold Oper.wp
      cases hr : (execOp a.eval o).run P w with
      | ok x w' =>
        rw [hr] at h
        cases x with
        | value u => exact hK _ _ _ (hstep _ _ h.1 h.2)
        | skip => exact hK _ _ _ (hstep _ _ h.1 h.2)
        | enter g args =>
          refine Calls.mono h fun e w'' he => ?_
          obtain ⟨v, rfl, h1, h2⟩ := he
          exact hK _ _ _ (hstep _ _ h1 h2)
        | _ => exact h.elim
      | halt x w' => rw [hr] at h; exact h.elim
    · exact h.elim
  · have hx' : ix.contains i = false := by simpa using hx
    have hst := inv.stage hW hi' ho hx'
    have h := asked hb (inv.known hi' ho hb (hob1.1 hx' k hst.1 hst.2 a w inv.wp))
    have hstep : ∀ v w', Wp k w' ∧ R w w' → T i v w' → InvW ops ix lo Wp T a0 (s.setIfInBounds i true) (a.put o.dst v) w' k := fun v w' h1 h2 =>
      inv.step hW (fun j _ _ v hv => hmono j v w w' hv h1.2) (.inl ⟨hx', rfl, hst.1⟩) hn hi' ho hb h1.1 h2
    have hstay : ∀ v, T i v w → InvW ops ix lo Wp T a0 (s.setIfInBounds i true) (a.put o.dst v) w k := fun v h2 =>
      inv.step hW (fun _ _ _ _ hv => hv) (.inl ⟨hx', rfl, hst.1⟩) hn hi' ho hb inv.wp h2
    unfold wpOp
    simp only [ho]
    split at h
    · rename_i hw
      rw [if_pos hw]
      left
      unfold Oper.wp
      cases hr : (execOp a.eval o).run P w with
      | ok x w' =>
        rw [hr] at h
        cases x with
        | value u => exact hK _ _ _ (hstep _ _ h.1 h.2)
        | skip => exact hK _ _ _ (hstep _ _ h.1 h.2)
        | enter g args =>
          refine Calls.mono h fun e w'' he => ?_
          obtain ⟨v, rfl, h1, h2⟩ := he
          exact hK _ _ _ (hstep _ _ h1 h2)
        | _ => exact h.elim
      | halt x w' => rw [hr] at h; exact h.elim
    · rename_i hw
      rw [if_neg hw]
      exact hK _ _ _ (hstay _ h)
/-- The first h in whatever order, the rest behind them. -/
theorem any_tailV {Q : Exit → Act → World → Prop} {n h : Nat} {plan : List Plan} {t : List Oper} (hW : seqW t.toArray ix lo hi = true) (hmono : ∀ j v w w', T j v w → R w w' → T j v w')
    (hB : okB t.toArray n plan = true) (hn : a0.tmps.size = n) (hh : h ≤ t.toArray.size) (hs : h < t.toArray.size → Region.sinkB .any t.toArray h = true ∧ Region.chainB .any t.toArray h = true)
    (hq : Region.seqB .any t.toArray (t.drop h).length h (headS t.toArray.size h) = true)
    (hob : ObsV P ix lo hi R Wp T a0 0 (t.take h) plan) (hQ : ∀ s a w k, InvW t.toArray ix lo Wp T a0 s a w k → (∀ i, i < h → s.getD i false = true) → (∀ j, h ≤ j → j < t.toArray.size → s.getD j true = false) → wpList P t.toArray Q (t.drop h) a w) :
    ∀ (f : Nat) (s : Array Bool) (a : Act) (w : World) (k : Nat), (s.toList.take h).count false = f → InvW t.toArray ix lo Wp T a0 s a w k → (∀ j, h ≤ j → j < t.toArray.size → s.getD j true = false) → wpAny P .any t.toArray Q (f + (t.drop h).length) s a w := by
  intro f
  induction f with
  | zero =>
    intro s a w k hf inv htl
    have hall : ∀ i, i < h → s.getD i false = true := fun i hi => by
      have hlt : i < s.size := by rw [inv.size]; omega
      by_cases e : s[i] = true
      · simp [hlt, e]
      · exfalso
        have h1 : s[i] = false := by simpa using e
        have : false ∈ s.toList.take h := by
          rw [List.mem_take_iff_getElem]
          exact ⟨i, by simp; omega, by simpa using h1⟩
        rw [List.count_eq_zero] at hf
        exact hf this
    have hse : s = headS t.toArray.size h := by
      apply Array.ext
      · simp [headS, inv.size]
      · intro i h1 h2
        have hi : i < t.toArray.size := by rw [← inv.size]; exact h1
        simp only [headS, List.getElem_toArray, List.getElem_map, List.getElem_range]
        by_cases e : i < h
        · have := hall i e
          simp only [e, decide_true]
          simpa [h1] using this
        · have := htl i (by omega) hi
          simp only [e, decide_false]
          simpa [h1] using this
    rw [Nat.zero_add]
    exact wpAny_of_seq (t.drop h) h s a w (fun j => by simp [List.getElem?_drop]) (by rw [hse]; exact hq) (hQ s a w k inv hall htl)
  | succ f ih =>
    intro s a w k hf inv htl
    rw [show f + 1 + (t.drop h).length = (f + (t.drop h).length) + 1 from by omega]
    have hB' : ∀ (i : Nat) (o : Oper), t.toArray[i]? = some o → ∃ p, opB t.toArray n i o p = true := fun i o ho => (okB_at hB ho).imp fun p h => h.2
    have hex : ∃ k, k < h ∧ s.getD k true = false := by
      have : 0 < (s.toList.take h).count false := by omega
      rw [List.count_pos_iff, List.mem_take_iff_getElem] at this
      obtain ⟨k, hk, e⟩ := this
      have hk1 : k < h := by simp at hk; omega
      have hk2 : k < s.size := by simp at hk; omega
      have e' : s[k] = false := by simpa using e
      exact ⟨k, hk1, by simp [hk2, e']⟩
    obtain ⟨k0, hk0, hk0s⟩ := hex
    refine ⟨fun hr => ?_, fun i hi => ?_⟩
    · have h1 := done hB' inv.size hr k0 (by omega)
      have h2 := getD_both hk0s
      rw [h2] at h1
      cases h1
    · obtain ⟨hun, o, ho, hall⟩ := mem_ready.1 hi
      have hlt : i < s.size := by rw [inv.size]; exact (Array.getElem?_eq_some_iff.1 ho).1
      have hhead : HeadInv .any t.toArray h s := ⟨inv.size, inv.closed, htl⟩
      have hih : i < h := by
        refine Nat.lt_of_not_le fun hle => ?_
        have hlt' : h < t.toArray.size := by have := inv.size; omega
        exact tail_waits (hs hlt').1 (hs hlt').2 hlt' hhead _ k0 rfl hk0 hk0s i hle hi
      have hcnt : ((s.setIfInBounds i true).toList.take h).count false = f := by
        have h1 : s[i] = false := by simpa [hlt] using hun
        rw [Array.toList_setIfInBounds, List.take_set, List.count_set (by simp; omega)]
        simp [h1, hf]
      obtain ⟨p, hp, hb⟩ := okB_at hB ho
      have hob1 := obsV_at hob (i := i) (by rw [List.getElem?_take_of_lt hih]; simpa using ho) hp
      rw [Nat.zero_add] at hob1
      exact op_ofV hW hmono hn inv hi ho hb hob1 fun v w' k' h1 => ih _ _ _ k' hcnt h1 fun j hj hj' => by
        rw [getD_set_ne true (by omega)]; exact htl j hj hj'
theorem invV_end {t : List Oper} {h : Nat} {es : List (Nat × Nat)} {G : Act → Prop} (hE : allB t h es = true) {s : Array Bool} {a : Act} {w : World} {k : Nat} (inv : InvW t.toArray ix lo Wp T a0 s a w k) (hall : ∀ i, i < h → s.getD i false = true) (htl : ∀ j, h ≤ j → j < t.toArray.size → s.getD j true = false)
    (hQ : Pre T a w es (G (puts a es a0))) : G a := by
  simp only [allB, Bool.and_eq_true] at hE
  have h1 := hQ.out fun x hx => by
    have h5 := List.all_eq_true.1 hE.1 x hx
    simp only [Bool.and_eq_true, decide_eq_true_eq] at h5
    obtain ⟨o, ho, hd⟩ := dstB_spec h5.2
    exact inv.vals x.1 o x.2 ho (hall _ h5.1) hd
  rw [puts_eq inv.tmps.symm inv.defers.symm fun k => ?_] at h1
  · exact h1
  · by_cases e : k ∈ es.map (·.2)
    · exact .inr e
    · refine .inl (inv.old k fun j o hj hl hd => ?_).symm
      have hjh : j < h := Nat.lt_of_not_le fun hle => by
        rw [getD_both (htl j hle (Array.getElem?_eq_some_iff.1 hj).1)] at hl; cases hl
      have h5 := List.all_eq_true.1 hE.2 j (List.mem_range.2 hjh)
      simp only [hj, hd] at h5
      rw [List.any_eq_true] at h5
      obtain ⟨x, hx, hk⟩ := h5
      exact e (List.mem_map.2 ⟨x, hx, by simpa using hk⟩)
/-- **Each of the first h operations once, whatever order comes; some turn the world, one behind the other; then the rest.** -/
theorem regionV {w0 : World} {id : Nat} {Q : Exit → Act → World → Prop} {t : List Oper} (R : World → World → Prop) (Wp : Nat → World → Prop) (Ts : List (Value → World → Prop)) (ix lo hi : List Nat) (m n h : Nat) (plan : List Plan) (es : List (Nat × Nat)) (hm : P.follows .mixedOrders = true) (hn : a0.tmps.size = n)
    (hl : m = ix.length) (hix : (ix.all fun y => decide (y < h)) = true) (hB : okB t.toArray n plan = true) (hW : seqW t.toArray ix lo hi = true) (hT : tailJ t h = true) (hE : allB t h es = true) (hmono : MonosR R Ts) (h0 : Wp 0 { w0 with drawn := w0.drawn + 1 })
    (hob : ObsV P ix lo hi R Wp (tys Ts) a0 0 (t.take h) plan) (hQ : ∀ a w, Wp m w → Pre (tys Ts) a w es (wpList P t.toArray Q (t.drop h) (puts a es a0) w)) : (Code.region id t.toArray true).wp P Q a0 w0 := by
  subst hl
  simp only [tailJ, Bool.and_eq_true, Bool.or_eq_true, decide_eq_true_eq] at hT
  obtain ⟨⟨h1, h2⟩, h4⟩ := hT
  have h1' : h ≤ t.length := by simpa using h1
  have hsz : h + (t.drop h).length = t.toArray.size := by simp; omega
  have key := any_tailV (P := P) (Q := Q) (Wp := Wp) (T := tys Ts) (a0 := a0) hW (monosR_at hmono) hB hn h1 (fun hlt => h2.resolve_left (by omega)) h4 hob (fun s a w k inv hall htl => by
    have hk : k = ix.length := by
      refine Nat.le_antisymm inv.kle (Nat.le_of_not_lt fun hlt => ?_)
      have h5 := inv.spd k hlt
      have h6 := List.all_eq_true.1 hix (at0 ix k) (by simp only [at0, List.getD_eq_getElem?_getD, List.getElem?_eq_getElem hlt, Option.getD_some]; exact List.getElem_mem hlt)
      rw [hall _ (of_decide_eq_true h6)] at h5
      have := of_decide_eq_true h5.symm
      omega
    exact invV_end (G := fun a => wpList P t.toArray Q (t.drop h) a w) hE inv hall htl (hQ a w (hk ▸ inv.wp))) h (Array.replicate t.toArray.size false) a0 { w0 with drawn := w0.drawn + 1 } 0 (by simp; omega)
    ⟨by simp, fun j oj _ hl => (by rw [getD_replicate_false] at hl; cases hl), rfl, rfl, fun _ _ => rfl, fun j o d _ hl => (by rw [getD_replicate_false] at hl; cases hl), Nat.zero_le _, h0, fun y _ => (by rw [getD_replicate_false]; simp), fun j o _ hl => (by rw [getD_replicate_false] at hl; cases hl)⟩
    (fun j _ hj => getD_in (by simpa using hj) (getD_replicate_false _ _))
  rw [hsz] at key
  exact wp_region_any hm key
end
section
variable {P : Program} {w : World} {V : Value → World → Prop} {ρ : Operand → Value} {o : Oper} {Z : World → Prop} {R : World → World → Prop}
/-- The world stands. -/
theorem okv_run {v : Value} (h : (execOp ρ o).run P w = .ok (.value v) w) (hz : Z w) (hr : R w w) (hv : V v w) : StepOK P (fun w w' => Z w' ∧ R w w') V w ((execOp ρ o).run P w) := by
  rw [h]; exact ⟨⟨hz, hr⟩, hv⟩
theorem okv_move {x : Operand} (ho : o.op = .move x) (hz : Z w) (hr : R w w) (hv : V (ρ x) w) : StepOK P (fun w w' => Z w' ∧ R w w') V w ((execOp ρ o).run P w) := by
  refine okv_run (v := ρ x) ?_ hz hr hv
  unfold execOp; simp only [ho]; rfl
end
end Gt
