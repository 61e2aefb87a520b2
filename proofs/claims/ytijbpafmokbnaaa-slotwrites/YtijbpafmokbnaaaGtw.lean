/- A region that leaves its order open, where a few operations turn the world and come one behind the other, and all others leave it as it is: of the world a predicate for each stage, of each operation's value a predicate. Each operation is looked at once, at the stages at which it may come. -/
import Derived.Test.YtijbpafmokbnaaaGtj
namespace Gt
open Go Go.RowKit
def at0 (l : List Nat) (j : Nat) : Nat := l.getD j 0
/-- ix: the operations that turn the world, in their order. lo, hi: at which stage each other one comes at the least, and at the most. -/
def loB (ix lo : List Nat) (o : Oper) (j : Nat) : Bool :=
  at0 lo j == 0 || o.after.any fun e => Region.binds .any e && ((!ix.contains e.on && decide (at0 lo j ≤ at0 lo e.on)) || at0 ix (at0 lo j - 1) == e.on)
def hiB (ops : Array Oper) (ix hi : List Nat) (j : Nat) : Bool :=
  decide (ix.length ≤ at0 hi j) || (match ops[at0 ix (at0 hi j)]? with | some o' => preds o' j | none => false)
def seqW (ops : Array Oper) (ix lo hi : List Nat) : Bool :=
  ((List.range ix.length).all fun y => decide (at0 ix y < ops.size) && (y == 0 || (match ops[at0 ix y]? with | some o => preds o (at0 ix (y - 1)) | none => false))) &&
  ((List.range ix.length).all fun y => (List.range ix.length).all fun z => y == z || at0 ix y != at0 ix z) &&
  (List.range ops.size).all fun j => match ops[j]? with
    | some o => ix.contains j || (decide (at0 lo j ≤ ix.length) && loB ix lo o j && hiB ops ix hi j)
    | none => false
def ObW (P : Program) (ix lo hi : List Nat) (Wp : Nat → World → Prop) (T : Nat → Value → World → Prop) (a0 : Act) (i : Nat) (o : Oper) (p : Plan) : Prop :=
  (ix.contains i = false → ∀ k, at0 lo i ≤ k → k ≤ at0 hi i → ∀ a w, Wp k w → Pre T a w p.ds (Kept a a0 p.ks (Guarded a p.gd (StepOK P (fun w w' => w' = w) (T i) w ((execOp a.eval o).run P w)) (T i undef w)))) ∧
  (ix.contains i = true → ∀ y, at0 ix y = i → y < ix.length → ∀ a w, Wp y w → Pre T a w p.ds (Kept a a0 p.ks (Guarded a p.gd (StepOK P (fun _ w' => Wp (y + 1) w') (T i) w ((execOp a.eval o).run P w)) False)))
def ObsW (P : Program) (ix lo hi : List Nat) (Wp : Nat → World → Prop) (T : Nat → Value → World → Prop) (a0 : Act) : Nat → List Oper → List Plan → Prop
  | i, o :: t, p :: ps => ObW P ix lo hi Wp T a0 i o p ∧ ObsW P ix lo hi Wp T a0 (i + 1) t ps
  | _, _, _ => True
section
variable {P : Program} {ops : Array Oper} {ix lo hi : List Nat} {Wp : Nat → World → Prop} {T : Nat → Value → World → Prop} {a0 : Act}
theorem obsW_at {t : List Oper} : ∀ {plan : List Plan} {k : Nat}, ObsW P ix lo hi Wp T a0 k t plan → ∀ {i : Nat} {o : Oper} {p : Plan}, t[i]? = some o → plan[i]? = some p → ObW P ix lo hi Wp T a0 (k + i) o p := by
  induction t with
  | nil => intro plan k _ i o p h; simp at h
  | cons x t ih =>
    intro plan k h i o p h1 h2
    cases plan with
    | nil => simp at h2
    | cons q ps =>
      cases i with
      | zero => simp at h1 h2; subst h1 h2; exact h.1
      | succ i =>
        have := ih h.2 (i := i) (by simpa using h1) (by simpa using h2)
        rw [show k + (i + 1) = k + 1 + i from by omega]; exact this
structure InvW (ops : Array Oper) (ix lo : List Nat) (Wp : Nat → World → Prop) (T : Nat → Value → World → Prop) (a0 : Act) (s : Array Bool) (a : Act) (w : World) (k : Nat) : Prop where
  size : s.size = ops.size
  closed : ∀ j oj, ops[j]? = some oj → s.getD j false = true → ∀ e ∈ oj.after, Region.binds .any e = true → s.getD e.on false = true
  tmps : a.tmps.size = a0.tmps.size
  defers : a.defers = a0.defers
  old : ∀ k, (∀ j o, ops[j]? = some o → s.getD j false = true → o.dst ≠ some k) → a.eval (.tmp k) = a0.eval (.tmp k)
  vals : ∀ j o d, ops[j]? = some o → s.getD j false = true → o.dst = some d → T j (a.eval (.tmp d)) w
  kle : k ≤ ix.length
  wp : Wp k w
  spd : ∀ y, y < ix.length → s.getD (at0 ix y) false = decide (y < k)
  low : ∀ j o, ops[j]? = some o → s.getD j false = true → ix.contains j = false → at0 lo j ≤ k
theorem seqW_chain (h : seqW ops ix lo hi = true) {y : Nat} (hy : y < ix.length) : at0 ix y < ops.size ∧ (y = 0 ∨ ∃ o, ops[at0 ix y]? = some o ∧ preds o (at0 ix (y - 1)) = true) := by
  simp only [seqW, Bool.and_eq_true] at h
  have h1 := List.all_eq_true.1 h.1.1 y (List.mem_range.2 hy)
  simp only [Bool.and_eq_true, decide_eq_true_eq, Bool.or_eq_true, beq_iff_eq] at h1
  refine ⟨h1.1, ?_⟩
  rcases h1.2 with h2 | h2
  · exact .inl h2
  · right
    cases ho : ops[at0 ix y]? with
    | none => simp [ho] at h2
    | some o => simp only [ho] at h2; exact ⟨o, rfl, h2⟩
theorem seqW_inj (h : seqW ops ix lo hi = true) {y z : Nat} (hy : y < ix.length) (hz : z < ix.length) (e : at0 ix y = at0 ix z) : y = z := by
  simp only [seqW, Bool.and_eq_true] at h
  have h1 := List.all_eq_true.1 (List.all_eq_true.1 h.1.2 y (List.mem_range.2 hy)) z (List.mem_range.2 hz)
  simp only [Bool.or_eq_true, beq_iff_eq, bne_iff_ne] at h1
  rcases h1 with h1 | h1
  · exact h1
  · exact absurd e h1
theorem seqW_other (h : seqW ops ix lo hi = true) {j : Nat} {o : Oper} (ho : ops[j]? = some o) (hx : ix.contains j = false) : at0 lo j ≤ ix.length ∧ loB ix lo o j = true ∧ hiB ops ix hi j = true := by
  simp only [seqW, Bool.and_eq_true] at h
  have h1 := List.all_eq_true.1 h.2 j (List.mem_range.2 (Array.getElem?_eq_some_iff.1 ho).1)
  simp only [ho, hx, Bool.false_or, Bool.and_eq_true, decide_eq_true_eq] at h1
  exact ⟨h1.1.1, h1.1.2, h1.2⟩
theorem contains_at {i : Nat} (h : ix.contains i = true) : ∃ y, y < ix.length ∧ at0 ix y = i := by
  rw [List.contains_iff_mem] at h
  obtain ⟨y, hy, e⟩ := List.getElem_of_mem h
  exact ⟨y, hy, by simp [at0, hy, e]⟩
theorem at_contains {y : Nat} (h : y < ix.length) : ix.contains (at0 ix y) = true := by
  rw [List.contains_iff_mem]
  simp only [at0, List.getD_eq_getElem?_getD, List.getElem?_eq_getElem h, Option.getD_some]
  exact List.getElem_mem h
/-- At which stage an operation that comes up stands. -/
theorem InvW.stage {s : Array Bool} {a : Act} {w : World} {k i : Nat} {o : Oper} (inv : InvW ops ix lo Wp T a0 s a w k) (hW : seqW ops ix lo hi = true) (hrd : i ∈ Region.ready .any ops s) (ho : ops[i]? = some o) (hx : ix.contains i = false) : at0 lo i ≤ k ∧ k ≤ at0 hi i := by
  obtain ⟨hun, oi, hoi, hall⟩ := mem_ready.1 hrd
  rw [ho] at hoi
  obtain rfl : o = oi := by simpa using hoi
  obtain ⟨_, h2, h3⟩ := seqW_other hW ho hx
  constructor
  · simp only [loB, Bool.or_eq_true, beq_iff_eq] at h2
    rcases h2 with h2 | h2
    · omega
    · rw [Array.any_eq_true'] at h2
      obtain ⟨e, he, h2⟩ := h2
      simp only [Bool.and_eq_true, Bool.or_eq_true, Bool.not_eq_true', decide_eq_true_eq, beq_iff_eq] at h2
      have hd := hall e he h2.1
      rcases h2.2 with ⟨hc, hle⟩ | hq
      · have hon : e.on < ops.size := by
          rw [← inv.size]
          refine Nat.lt_of_not_le fun hge => ?_
          rw [Array.getD_eq_getD_getElem?, Array.getElem?_eq_none hge] at hd; cases hd
        have := inv.low e.on ops[e.on] (by simp [hon]) hd hc
        omega
      · by_cases h0 : at0 lo i = 0
        · omega
        · obtain ⟨h4, _, _⟩ := seqW_other hW ho hx
          have h5 := inv.spd (at0 lo i - 1) (by omega)
          rw [hq, hd] at h5
          have := of_decide_eq_true h5.symm
          omega
  · simp only [hiB, Bool.or_eq_true, decide_eq_true_eq] at h3
    have hk := inv.kle
    rcases h3 with h3 | h3
    · omega
    · refine Nat.le_of_not_lt fun hlt => ?_
      cases ho' : ops[at0 ix (at0 hi i)]? with
      | none => simp [ho'] at h3
      | some o' =>
        simp only [ho'] at h3
        obtain ⟨e, he, hbd, hon⟩ := preds_spec h3
        have h5 := inv.spd (at0 hi i) (by omega)
        rw [decide_eq_true hlt] at h5
        have h6 := inv.closed _ _ ho' h5 e he hbd
        rw [hon, getD_both hun] at h6
        cases h6
theorem InvW.turn {s : Array Bool} {a : Act} {w : World} {k y : Nat} (inv : InvW ops ix lo Wp T a0 s a w k) (hW : seqW ops ix lo hi = true) (hy : y < ix.length) (hi : at0 ix y ∈ Region.ready .any ops s) : k = y := by
  obtain ⟨hun, oi, hoi, hall⟩ := mem_ready.1 hi
  have h1 := inv.spd y hy
  rw [getD_both hun] at h1
  have h2 : ¬ y < k := of_decide_eq_false h1.symm
  rcases (seqW_chain hW hy).2 with h0 | ⟨o, ho, hp⟩
  · omega
  · by_cases h0 : y = 0
    · omega
    · rw [hoi] at ho
      obtain rfl : oi = o := by simpa using ho
      obtain ⟨e, he, hbd, hon⟩ := preds_spec hp
      have h3 := hall e he hbd
      rw [hon] at h3
      have h4 := inv.spd (y - 1) (by omega)
      rw [h3] at h4
      have := of_decide_eq_true h4.symm
      omega
theorem InvW.step {s : Array Bool} {a : Act} {w w' : World} {i k k' : Nat} {o : Oper} {v : Value} {n : Nat} {p : Plan} (inv : InvW ops ix lo Wp T a0 s a w k) (hW : seqW ops ix lo hi = true)
    (hT : ∀ j, j ≠ i → s.getD j false = true → ∀ v, T j v w → T j v w') (hk : (ix.contains i = false ∧ k' = k ∧ at0 lo i ≤ k) ∨ ∃ y, y < ix.length ∧ at0 ix y = i ∧ k = y ∧ k' = y + 1)
    (hn : a0.tmps.size = n) (hi : i ∈ Region.ready .any ops s) (ho : ops[i]? = some o) (hb : opB ops n i o p = true) (hw : Wp k' w') (hv : T i v w') : InvW ops ix lo Wp T a0 (s.setIfInBounds i true) (a.put o.dst v) w' k' := by
  obtain ⟨hun, oi, hoi, hall⟩ := mem_ready.1 hi
  rw [ho] at hoi
  obtain rfl : o = oi := by simpa using hoi
  have hsz : i < s.size := by rw [inv.size]; exact (Array.getElem?_eq_some_iff.1 ho).1
  simp only [opB, Bool.and_eq_true] at hb
  obtain ⟨⟨⟨⟨⟨hb1, _⟩, _⟩, _⟩, hb5⟩, _⟩ := hb
  have hset : ∀ j, (s.setIfInBounds i true).getD j false = true → j = i ∨ s.getD j false = true := fun j hj => by
    by_cases e : j = i
    · exact .inl e
    · right; rwa [getD_set_ne false (Ne.symm e)] at hj
  have hself : (s.setIfInBounds i true).getD i false = true := by simp [hsz]
  refine ⟨by simp [inv.size], fun j oj hj hl e he hbd => ?_, ?_, ?_, fun k hk => ?_, fun j oj d hj hl hd => ?_, ?_, hw, fun z hz => ?_, fun j oj hj hl hc => ?_⟩
  · rcases hset j hl with rfl | h
    · rw [ho] at hj; obtain rfl : o = oj := by simpa using hj
      exact getD_set_true (hall e he hbd)
    · exact getD_set_true (inv.closed j oj hj h e he hbd)
  · rw [← inv.tmps]; cases o.dst <;> simp [Act.put]
  · rw [← inv.defers]; cases o.dst <;> simp [Act.put]
  · have h1 : o.dst ≠ some k := hk i o ho (by simp [hsz])
    rw [Act.eval_put fun d hd hx => h1 (by rw [hd]; injection hx with hx; rw [hx])]
    exact inv.old k fun j oj hj hl => hk j oj hj (getD_set_true hl)
  · rcases hset j hl with rfl | h
    · rw [ho] at hj; obtain rfl : o = oj := by simpa using hj
      rw [hd] at hb1 ⊢
      rw [eval_put_same (by rw [inv.tmps, hn]; simpa using hb1)]
      exact hv
    · by_cases e : j = i
      · subst e; rw [getD_both hun] at h; cases h
      · have h1 := (List.all_eq_true.1 hb5) j (List.mem_range.2 (Array.getElem?_eq_some_iff.1 hj).1)
        simp only [hj, Bool.or_eq_true, beq_iff_eq, e, false_or] at h1
        have hne : ∀ d', o.dst = some d' → Operand.tmp d ≠ .tmp d' := fun d' hd' hx => by
          injection hx with hx
          rcases h1 with h1 | h1
          · rw [hd'] at h1; cases h1
          · rw [hd', hd, hx] at h1; simp at h1
        rw [Act.eval_put fun d' hd' => hne d' hd']
        exact hT j e h _ (inv.vals j oj d hj h hd)
  · rcases hk with ⟨_, h1, _⟩ | ⟨y, hy, _, _, h1⟩
    · rw [h1]; exact inv.kle
    · omega
  · rcases hk with ⟨h1, h2, _⟩ | ⟨y, hy, h1, h2, h3⟩
    · have hne : i ≠ at0 ix z := fun e => by rw [e, at_contains hz] at h1; cases h1
      rw [getD_set_ne false hne, inv.spd z hz, h2]
    · by_cases e : z = y
      · subst e
        rw [h1, hself, h3]; exact (decide_eq_true (Nat.lt_succ_self _)).symm
      · have hne : i ≠ at0 ix z := fun e2 => e (seqW_inj hW hz hy (by rw [h1]; exact e2.symm))
        rw [getD_set_ne false hne, inv.spd z hz, h2, h3]
        congr 1
        exact propext ⟨fun h => by omega, fun h => by omega⟩
  · rcases hset j hl with rfl | h
    · rcases hk with ⟨_, h2, h3⟩ | ⟨y, hy, h1, _, _⟩
      · omega
      · rw [← h1, at_contains hy] at hc; cases hc
    · have := inv.low j oj hj h hc
      rcases hk with ⟨_, h2, _⟩ | ⟨y, hy, _, h2, h3⟩ <;> omega
/-- What is known of an operation that comes up. -/
theorem InvW.known {n i k : Nat} {o : Oper} {p : Plan} {s : Array Bool} {a : Act} {w : World} {G : Prop} (inv : InvW ops ix lo Wp T a0 s a w k) (hi : i ∈ Region.ready .any ops s) (ho : ops[i]? = some o) (hb : opB ops n i o p = true)
    (hob1 : Pre T a w p.ds (Kept a a0 p.ks G)) : G := by
  obtain ⟨hun, oi, hoi, hall⟩ := mem_ready.1 hi
  rw [ho] at hoi
  obtain rfl : o = oi := by simpa using hoi
  simp only [opB, Bool.and_eq_true] at hb
  obtain ⟨⟨⟨⟨⟨_, _⟩, hb3⟩, hb4⟩, _⟩, hb6⟩ := hb
  have hob2 := hob1.out fun x hx => by
    have h1 := List.all_eq_true.1 hb3 x hx
    simp only [Bool.and_eq_true] at h1
    obtain ⟨oj, hoj, hdj⟩ := dstB_spec h1.1
    obtain ⟨e, he, hbd, hon⟩ := preds_spec h1.2
    exact inv.vals x.1 oj x.2 hoj (hon ▸ hall e he hbd) hdj
  exact hob2.out fun k hk => by
    have h1 := List.all_eq_true.1 hb4 k hk
    refine inv.old k fun j oj hj hl hd => ?_
    have h2 := List.all_eq_true.1 h1 j (List.mem_range.2 (Array.getElem?_eq_some_iff.1 hj).1)
    simp only [hj, Bool.or_eq_true, beq_iff_eq] at h2
    rcases h2 with rfl | h2
    · rw [getD_both hun] at hl; cases hl
    · rcases h2 with h2 | h2
      · rw [hd] at h2; simp at h2
      · obtain ⟨e, he, hbd, hon⟩ := preds_spec h2
        have h3 := inv.closed j oj hj hl e he hbd
        rw [hon, getD_both hun] at h3
        cases h3
theorem op_ofW {Q : Exit → Act → World → Prop} {K : Act → World → Prop} {n i k : Nat} {o : Oper} {p : Plan} {s : Array Bool} {a : Act} {w : World} (hW : seqW ops ix lo hi = true)
    (hmono : ∀ j, j ≠ at0 ix (ix.length - 1) → (ix.contains j = true ∨ at0 lo j < ix.length) → ∀ v w w', T j v w → T j v w') (hn : a0.tmps.size = n)
    (inv : InvW ops ix lo Wp T a0 s a w k) (hi' : i ∈ Region.ready .any ops s) (ho : ops[i]? = some o) (hb : opB ops n i o p = true)
    (hob1 : ObW P ix lo hi Wp T a0 i o p) (hK : ∀ v w' k', InvW ops ix lo Wp T a0 (s.setIfInBounds i true) (a.put o.dst v) w' k' → K (a.put o.dst v) w') : wpOp P ops Q i K a w := by
  by_cases hx : ix.contains i = true
  · obtain ⟨y, hy, hyi⟩ := contains_at hx
    have hky : k = y := inv.turn hW hy (by rw [hyi]; exact hi')
    subst hky
    have h := asked hb (inv.known hi' ho hb (hob1.2 hx k hyi hy a w inv.wp))
    have hun := (mem_ready.1 hi').1
    have hstep : ∀ v w', Wp (k + 1) w' → T i v w' → InvW ops ix lo Wp T a0 (s.setIfInBounds i true) (a.put o.dst v) w' (k + 1) := fun v w' h1 h2 => by
      refine inv.step hW (fun j hj hl v hv => ?_) (.inr ⟨k, hy, hyi, rfl, rfl⟩) hn hi' ho hb h1 h2
      -- what has come already was not behind the last
      have hjo : j < ops.size := by
        rw [← inv.size]
        refine Nat.lt_of_not_le fun hge => ?_
        rw [Array.getD_eq_getD_getElem?, Array.getElem?_eq_none hge] at hl; cases hl
      refine hmono j (fun e => ?_) ?_ v w w' hv
      · have h5 := inv.spd (ix.length - 1) (by omega)
        rw [← e, hl] at h5
        have := of_decide_eq_true h5.symm
        omega
      · by_cases hc : ix.contains j = true
        · exact .inl hc
        · have := inv.low j ops[j] (by simp [hjo]) hl (by simpa using hc)
          exact .inr (by omega)
    unfold wpOp
    simp only [ho]
    split at h
    · rename_i hw
      rw [if_pos hw]
      left
      unfold Oper.wp
      cases hr : (execOp a.eval o).run P w with
      | ok x w' =>
        rw [hr] at h
        cases x with
        | value u => exact hK _ _ _ (hstep _ _ h.1 h.2)
        | skip => exact hK _ _ _ (hstep _ _ h.1 h.2)
        | enter g args =>
          refine Calls.mono h fun e w'' he => ?_
          obtain ⟨v, rfl, h1, h2⟩ := he
          exact hK _ _ _ (hstep _ _ h1 h2)
        | _ => exact h.elim
      | halt x w' => rw [hr] at h; exact h.elim
    · exact h.elim
  · have hx' : ix.contains i = false := by simpa using hx
    have hst := inv.stage hW hi' ho hx'
    have h := asked hb (inv.known hi' ho hb (hob1.1 hx' k hst.1 hst.2 a w inv.wp))
    have hstep : ∀ v, T i v w → InvW ops ix lo Wp T a0 (s.setIfInBounds i true) (a.put o.dst v) w k := fun v h2 =>
      inv.step hW (fun _ _ _ _ hv => hv) (.inl ⟨hx', rfl, hst.1⟩) hn hi' ho hb inv.wp h2
    unfold wpOp
    simp only [ho]
    split at h
    · rename_i hw
      rw [if_pos hw]
      left
      unfold Oper.wp
      cases hr : (execOp a.eval o).run P w with
      | ok x w' =>
        rw [hr] at h
        cases x with
        | value u =>
          obtain ⟨rfl, h2⟩ := h
          exact hK _ _ _ (hstep _ h2)
        | skip =>
          obtain ⟨rfl, h2⟩ := h
          exact hK _ _ _ (hstep _ h2)
        | enter g args =>
          refine Calls.mono h fun e w'' he => ?_
          obtain ⟨v, rfl, rfl, h2⟩ := he
          exact hK _ _ _ (hstep _ h2)
        | _ => exact h.elim
      | halt x w' => rw [hr] at h; exact h.elim
    · rename_i hw
      rw [if_neg hw]
      exact hK _ _ _ (hstep _ h)
theorem any_ofW {Q : Exit → Act → World → Prop} {n : Nat} {plan : List Plan} {t : List Oper} (hW : seqW t.toArray ix lo hi = true) (hB : okB t.toArray n plan = true)
    (hmono : ∀ j, j ≠ at0 ix (ix.length - 1) → (ix.contains j = true ∨ at0 lo j < ix.length) → ∀ v w w', T j v w → T j v w') (hn : a0.tmps.size = n)
    (hob : ObsW P ix lo hi Wp T a0 0 t plan) (hQ : ∀ s a w k, InvW t.toArray ix lo Wp T a0 s a w k → (∀ i, i < t.toArray.size → s.getD i false = true) → Q .normal a w) :
    ∀ (f : Nat) (s : Array Bool) (a : Act) (w : World) (k : Nat), s.toList.count false = f → InvW t.toArray ix lo Wp T a0 s a w k → wpAny P .any t.toArray Q f s a w := by
  intro f
  induction f with
  | zero =>
    intro s a w k hf inv
    have hr : Region.ready .any t.toArray s = [] := by
      rw [List.eq_nil_iff_forall_not_mem]
      intro i hi
      obtain ⟨hun, o, ho, _⟩ := mem_ready.1 hi
      have hlt : i < s.size := by rw [inv.size]; exact (Array.getElem?_eq_some_iff.1 ho).1
      have h1 : s[i] = false := by simpa [hlt] using hun
      have : false ∈ s.toList := by rw [← h1]; simp
      rw [List.count_eq_zero] at hf
      exact hf this
    exact ⟨hr, hQ s a w k inv (done (n := n) (fun i o ho => (okB_at hB ho).imp fun p h => h.2) inv.size hr)⟩
  | succ f ih =>
    intro s a w k hf inv
    refine ⟨fun hr => hQ s a w k inv (done (n := n) (fun i o ho => (okB_at hB ho).imp fun p h => h.2) inv.size hr), fun i hi => ?_⟩
    obtain ⟨hun, o, ho, hall⟩ := mem_ready.1 hi
    have hlt : i < s.size := by rw [inv.size]; exact (Array.getElem?_eq_some_iff.1 ho).1
    have hcnt : (s.setIfInBounds i true).toList.count false = f := by
      have h1 : s[i] = false := by simpa [hlt] using hun
      rw [Array.toList_setIfInBounds, List.count_set (by simpa using hlt)]
      simp [h1, hf]
    obtain ⟨p, hp, hb⟩ := okB_at hB ho
    have hob1 := obsW_at hob (i := i) (by simpa using ho) hp
    rw [Nat.zero_add] at hob1
    exact op_ofW hW hmono hn inv hi ho hb hob1 fun v w' k' h1 => ih _ _ _ k' hcnt h1
theorem invW_end {t : List Oper} {es : List (Nat × Nat)} {G : Act → Prop} (hE : allB t t.length es = true) {s : Array Bool} {a : Act} {w : World} {k : Nat} (inv : InvW t.toArray ix lo Wp T a0 s a w k) (hall : ∀ i, i < t.toArray.size → s.getD i false = true)
    (hQ : Pre T a w es (G (puts a es a0))) : G a := by
  simp only [allB, Bool.and_eq_true] at hE
  have h1 := hQ.out fun x hx => by
    have h5 := List.all_eq_true.1 hE.1 x hx
    simp only [Bool.and_eq_true, decide_eq_true_eq] at h5
    obtain ⟨o, ho, hd⟩ := dstB_spec h5.2
    exact inv.vals x.1 o x.2 ho (hall _ (by simpa using h5.1)) hd
  rw [puts_eq inv.tmps.symm inv.defers.symm fun k => ?_] at h1
  · exact h1
  · by_cases e : k ∈ es.map (·.2)
    · exact .inr e
    · refine .inl (inv.old k fun j o hj hl hd => ?_).symm
      have h5 := List.all_eq_true.1 hE.2 j (List.mem_range.2 (by simpa using (Array.getElem?_eq_some_iff.1 hj).1))
      simp only [hj, hd] at h5
      rw [List.any_eq_true] at h5
      obtain ⟨x, hx, hk⟩ := h5
      exact e (List.mem_map.2 ⟨x, hx, by simpa using hk⟩)
/-- Which values may lean on the world: those that come behind the last turn. -/
def Firm : List (Value → World → Prop) → Nat → List Nat → List Nat → Nat → Prop
  | [], _, _, _, _ => True
  | V :: t, j, ix, lo, m => ((j ≠ at0 ix (m - 1) ∧ (ix.contains j = true ∨ at0 lo j < m)) → ∀ v w w', V v w → V v w') ∧ Firm t (j + 1) ix lo m
theorem firm_at {m : Nat} : ∀ {Ts : List (Value → World → Prop)} {b : Nat}, Firm Ts b ix lo m → ∀ j, b + j ≠ at0 ix (m - 1) → (ix.contains (b + j) = true ∨ at0 lo (b + j) < m) → ∀ v w w', tys Ts j v w → tys Ts j v w'
  | [], _, _, _, _, _, _, _, _, _ => trivial
  | _ :: _, _, h, 0, h1, h2, v, w, w', hv => h.1 ⟨h1, h2⟩ v w w' hv
  | _ :: _, b, h, j + 1, h1, h2, v, w, w', hv => firm_at (b := b + 1) h.2 j (by rw [show b + 1 + j = b + (j + 1) by omega]; exact h1) (by rw [show b + 1 + j = b + (j + 1) by omega]; exact h2) v w w' hv
/-- **Each operation once, whatever order comes; some turn the world, one behind the other.** -/
theorem regionW {w0 : World} {id : Nat} {Q : Exit → Act → World → Prop} {t : List Oper} (Wp : Nat → World → Prop) (Ts : List (Value → World → Prop)) (ix lo hi : List Nat) (m n : Nat) (plan : List Plan) (es : List (Nat × Nat)) (hm : P.follows .mixedOrders = true) (hn : a0.tmps.size = n)
    (hl : m = ix.length) (hB : okB t.toArray n plan = true) (hW : seqW t.toArray ix lo hi = true) (hE : allB t t.length es = true) (hmono : Firm Ts 0 ix lo m) (h0 : Wp 0 { w0 with drawn := w0.drawn + 1 })
    (hob : ObsW P ix lo hi Wp (tys Ts) a0 0 t plan) (hQ : ∀ a w, Wp m w → Pre (tys Ts) a w es (Q .normal (puts a es a0) w)) : (Code.region id t.toArray true).wp P Q a0 w0 := by
  subst hl
  refine wp_region_any hm (any_ofW (Wp := Wp) (T := tys Ts) (a0 := a0) hW hB (fun j h1 h2 => by have := firm_at (b := 0) hmono j; rw [Nat.zero_add] at this; exact this h1 h2) hn hob (fun s a w k inv hall => ?_) _ _ _ _ 0 (by simp) ⟨by simp, fun j oj _ hl => (by rw [getD_replicate_false] at hl; cases hl), rfl, rfl, fun _ _ => rfl, fun j o d _ hl => (by rw [getD_replicate_false] at hl; cases hl), Nat.zero_le _, h0, fun y _ => (by rw [getD_replicate_false]; simp), fun j o _ hl => (by rw [getD_replicate_false] at hl; cases hl)⟩)
  have hk : k = ix.length := by
    refine Nat.le_antisymm inv.kle (Nat.le_of_not_lt fun hlt => ?_)
    have h1 := inv.spd k hlt
    rw [hall _ (seqW_chain hW hlt).1] at h1
    have := of_decide_eq_true h1.symm
    omega
  exact invW_end (G := fun a => Q .normal a w) hE inv hall (hQ a w (hk ▸ inv.wp))
end
/-! The world stands. -/
section
variable {P : Program} {w : World} {V : Value → World → Prop} {ρ : Operand → Value} {o : Oper} {R : World → World → Prop}
theorem okw_run {v : Value} (h : (execOp ρ o).run P w = .ok (.value v) w) (hv : V v w) : StepOK P (fun w w' => w' = w) V w ((execOp ρ o).run P w) := by
  rw [h]; exact ⟨rfl, hv⟩
theorem okw_move {x : Operand} (ho : o.op = .move x) (hv : V (ρ x) w) : StepOK P (fun w w' => w' = w) V w ((execOp ρ o).run P w) := by
  refine okw_run (v := ρ x) ?_ hv
  unfold execOp; simp only [ho]; rfl
theorem okw_assign {x : Operand} (ho : o.op = .assign x) (hv : V (ρ x) w) : StepOK P (fun w w' => w' = w) V w ((execOp ρ o).run P w) := by
  refine okw_run (v := ρ x) ?_ hv
  unfold execOp; simp only [ho]; rfl
theorem okw_pick {c x y : Operand} {b : Bool} (ho : o.op = .pick c x y) (hc : ρ c = .bool b) (hv : V (if b then ρ x else ρ y) w) : StepOK P (fun w w' => w' = w) V w ((execOp ρ o).run P w) := by
  refine okw_run (v := if b then ρ x else ρ y) ?_ hv
  unfold execOp; simp only [ho, hc]; rfl
theorem okw_convert {s d : TypeId} {x : Operand} {u v : Value} (ho : o.op = .convert s d x) (hx : ρ x = u) (hr : (convert s d u).run P w = .ok v w) (hv : V v w) : StepOK P (fun w w' => w' = w) V w ((execOp ρ o).run P w) := by
  refine okw_run (v := v) ?_ hv
  unfold execOp
  simp only [ho, hx]
  simp only [Sem.run_bind, hr]
  rfl
/-! The world is turned. -/
theorem okt_run {v : Value} {w' : World} (h : (execOp ρ o).run P w = .ok (.value v) w') (hR : R w w') (hv : V v w') : StepOK P R V w ((execOp ρ o).run P w) := by
  rw [h]; exact ⟨hR, hv⟩
theorem guard_no {v : Value} {b b' : Bool} {G N : Prop} (h0 : v = .bool b) (hb : b ≠ b') (hn : N) : (v = .bool b' → G) ∧ (v ≠ .bool b' → N) :=
  ⟨fun h => absurd (by rw [h0] at h; injection h) hb, fun _ => hn⟩
theorem guard_yes {v : Value} {b : Bool} {G N : Prop} (h0 : v = .bool b) (hg : G) : (v = .bool b → G) ∧ (v ≠ .bool b → N) := ⟨fun _ => hg, fun h => absurd h0 h⟩
theorem okt_skip {w' : World} (h : (execOp ρ o).run P w = .ok .skip w') (hR : R w w') (hv : V undef w') : StepOK P R V w ((execOp ρ o).run P w) := by
  rw [h]; exact ⟨hR, hv⟩
theorem okt_call {a : Act} {f : FuncId} {xs : Array Operand} {ts : Array TypeId} (ho : o.op = .call { callee := .value (.func f), args := xs, argTypes := ts }) (vs : Array Value) (hen : (callFunc f vs).run P w = .ok (.enter f vs) w) (hv : xs.map a.eval = vs)
    (hc : Calls P f vs w fun e w' => ∃ v, e = .returned v ∧ R w w' ∧ V v w') : StepOK P R V w ((execOp a.eval o).run P w) := by
  obtain ⟨dst, op, ty, pos, after, guard⟩ := o
  simp only at ho
  subst ho
  rw [execOp_call_go, hv]
  have e : #[] ++ vs ++ #[] = vs := by simp
  rw [e, hen]
  exact hc
theorem okt_append {a : Act} {s x : Operand} {t : TypeId} {vs vx v : Value} {w' : World} (ho : o.op = .call { callee := .builtin .append, args := #[s, x], argTypes := #[t, t] }) (hs : a.eval s = vs) (hx : a.eval x = vx)
    (hrun : (Builtin.append_ #[t, t] o.type #[vs, vx]).run P w = .ok v w') (hR : R w w') (hv : V v w') : StepOK P R V w ((execOp a.eval o).run P w) := by
  refine okt_run (v := v) (w' := w') ?_ hR hv
  unfold execOp
  simp only [ho, resolve, invoke, builtin, Sem.run_bind, Sem.run_pure, Result.andThen_ok, List.map_toArray, List.map_cons, List.map_nil, hs, hx, hrun]
end
end Gt
