/- A region that leaves its order open, where some operations turn memory that was there ('append' onto a row of one's own): of each operation's value a predicate; of each operation that turns something what it turns, and what it may count on as long as it has not come. Outside a round of a range over a function, and inside one. -/
import Derived.Test.YtijbpafmokbnaaaGty
import Derived.Test.YtijbpafmokbnaaaQti
namespace Gt
open Go Go.RowKit
/-- An operation that turns something: its number; what it turns; what it may count on as long as it has not come. -/
structure Sp where
  ix : Nat
  rel : World → World → Prop
  fact : World → Prop
def Rf (sp : List Sp) (k : Nat) : World → World → Prop := match sp.find? (fun x => x.ix == k) with | some x => x.rel | none => Gr
def Ff (sp : List Sp) (k : Nat) : World → Prop := match sp.find? (fun x => x.ix == k) with | some x => x.fact | none => fun _ => True
structure Laws (ops : Array Oper) (S : World → Prop) (sp : List Sp) (T : Nat → Value → World → Prop) : Prop where
  refl : ∀ x ∈ sp, ∀ w, x.rel w w
  sG : ∀ w w', S w → Gr w w' → S w'
  sR : ∀ x ∈ sp, ∀ w w', S w → x.rel w w' → S w'
  fG : ∀ x ∈ sp, ∀ w w', x.fact w → Gr w w' → x.fact w'
  fR : ∀ x ∈ sp, ∀ y ∈ sp, x.ix ≠ y.ix → ∀ w w', x.fact w → y.rel w w' → x.fact w'
  tG : ∀ j v w w', T j v w → Gr w w' → T j v w'
  tR : ∀ y ∈ sp, ∀ j o, ops[j]? = some o → j ≠ y.ix → preds o y.ix = false → ∀ v w w', T j v w → y.rel w w' → T j v w'
def ObJ (P : Program) (S : World → Prop) (sp : List Sp) (T : Nat → Value → World → Prop) (a0 : Act) (i : Nat) (o : Oper) (p : Plan) : Prop :=
  ∀ a w, S w → Ff sp i w → Pre T a w p.ds (Kept a a0 p.ks (Guarded a p.gd (StepOK P (Rf sp i) (T i) w ((execOp a.eval o).run P w)) (T i undef w)))
def ObsJ (P : Program) (S : World → Prop) (sp : List Sp) (T : Nat → Value → World → Prop) (a0 : Act) : Nat → List Oper → List Plan → Prop
  | i, o :: t, p :: ps => ObJ P S sp T a0 i o p ∧ ObsJ P S sp T a0 (i + 1) t ps
  | _, _, _ => True
section
variable {P : Program} {ops : Array Oper} {S : World → Prop} {sp : List Sp} {T : Nat → Value → World → Prop} {a0 : Act} {l m : Nat}
structure InvJ (ops : Array Oper) (S : World → Prop) (sp : List Sp) (T : Nat → Value → World → Prop) (a0 : Act) (s : Array Bool) (a : Act) (w : World) : Prop where
  size : s.size = ops.size
  closed : ∀ j oj, ops[j]? = some oj → s.getD j false = true → ∀ e ∈ oj.after, Region.binds .any e = true → s.getD e.on false = true
  st : S w
  un : ∀ x ∈ sp, s.getD x.ix false = false → x.fact w
  tmps : a.tmps.size = a0.tmps.size
  defers : a.defers = a0.defers
  old : ∀ k, (∀ j o, ops[j]? = some o → s.getD j false = true → o.dst ≠ some k) → a.eval (.tmp k) = a0.eval (.tmp k)
  vals : ∀ j o d, ops[j]? = some o → s.getD j false = true → o.dst = some d → T j (a.eval (.tmp d)) w
theorem obsJ_at {t : List Oper} : ∀ {plan : List Plan} {k : Nat}, ObsJ P S sp T a0 k t plan → ∀ {i : Nat} {o : Oper} {p : Plan}, t[i]? = some o → plan[i]? = some p → ObJ P S sp T a0 (k + i) o p := by
  induction t with
  | nil => intro plan k _ i o p h; simp at h
  | cons x t ih =>
    intro plan k h i o p h1 h2
    cases plan with
    | nil => simp at h2
    | cons q ps =>
      cases i with
      | zero => simp at h1 h2; subst h1 h2; exact h.1
      | succ i =>
        have := ih h.2 (i := i) (by simpa using h1) (by simpa using h2)
        rw [show k + (i + 1) = k + 1 + i from by omega]; exact this
theorem Rf_cases (sp : List Sp) (k : Nat) : Rf sp k = Gr ∨ ∃ x ∈ sp, x.ix = k ∧ Rf sp k = x.rel := by
  unfold Rf
  cases h : sp.find? (fun x => x.ix == k) with
  | none => exact .inl rfl
  | some x => exact .inr ⟨x, List.mem_of_find?_eq_some h, by simpa using List.find?_some h, rfl⟩
theorem Laws.Rrefl (L : Laws ops S sp T) (k : Nat) (w : World) : Rf sp k w w := by
  rcases Rf_cases sp k with h | ⟨x, hx, _, h⟩
  · rw [h]; exact Gr.refl w
  · rw [h]; exact L.refl x hx w
theorem InvJ.step {s : Array Bool} {a : Act} {w w' : World} {i : Nat} {o : Oper} {v : Value} {n : Nat} {p : Plan} (inv : InvJ ops S sp T a0 s a w) (L : Laws ops S sp T)
    (hn : a0.tmps.size = n) (hi : i ∈ Region.ready .any ops s) (ho : ops[i]? = some o) (hb : opB ops n i o p = true) (hw : Rf sp i w w') (hv : T i v w') : InvJ ops S sp T a0 (s.setIfInBounds i true) (a.put o.dst v) w' := by
  obtain ⟨hun, oi, hoi, hall⟩ := mem_ready.1 hi
  rw [ho] at hoi
  obtain rfl : o = oi := by simpa using hoi
  have hsz : i < s.size := by rw [inv.size]; exact (Array.getElem?_eq_some_iff.1 ho).1
  simp only [opB, Bool.and_eq_true] at hb
  obtain ⟨⟨⟨⟨⟨hb1, _⟩, _⟩, _⟩, hb5⟩, _⟩ := hb
  have hset : ∀ j, (s.setIfInBounds i true).getD j false = true → j = i ∨ s.getD j false = true := fun j hj => by
    by_cases e : j = i
    · exact .inl e
    · right; rwa [getD_set_ne false (Ne.symm e)] at hj
  have hst : S w' := by
    rcases Rf_cases sp i with h | ⟨x, hx, _, h⟩
    · exact L.sG _ _ inv.st (h ▸ hw)
    · exact L.sR x hx _ _ inv.st (h ▸ hw)
  refine ⟨by simp [inv.size], fun j oj hj hl e he hbd => ?_, hst, fun x hx hl => ?_, ?_, ?_, fun k hk => ?_, fun j oj d hj hl hd => ?_⟩
  · rcases hset j hl with rfl | h
    · rw [ho] at hj; obtain rfl : o = oj := by simpa using hj
      exact getD_set_true (hall e he hbd)
    · exact getD_set_true (inv.closed j oj hj h e he hbd)
  · have hne : x.ix ≠ i := fun e => by
      rw [e] at hl
      have : (s.setIfInBounds i true).getD i false = true := by simp [hsz]
      rw [this] at hl; cases hl
    rw [getD_set_ne false (Ne.symm hne)] at hl
    have hf := inv.un x hx hl
    rcases Rf_cases sp i with h | ⟨y, hy, hyi, h⟩
    · exact L.fG x hx _ _ hf (h ▸ hw)
    · exact L.fR x hx y hy (by rw [hyi]; exact hne) _ _ hf (h ▸ hw)
  · rw [← inv.tmps]; cases o.dst <;> simp [Act.put]
  · rw [← inv.defers]; cases o.dst <;> simp [Act.put]
  · have h1 : o.dst ≠ some k := hk i o ho (by simp [hsz])
    rw [Act.eval_put fun d hd hx => h1 (by rw [hd]; injection hx with hx; rw [hx])]
    exact inv.old k fun j oj hj hl => hk j oj hj (getD_set_true hl)
  · rcases hset j hl with rfl | h
    · rw [ho] at hj; obtain rfl : o = oj := by simpa using hj
      rw [hd] at hb1 ⊢
      rw [eval_put_same (by rw [inv.tmps, hn]; simpa using hb1)]
      exact hv
    · by_cases e : j = i
      · subst e; rw [getD_both hun] at h; cases h
      · have h1 := (List.all_eq_true.1 hb5) j (List.mem_range.2 (Array.getElem?_eq_some_iff.1 hj).1)
        simp only [hj, Bool.or_eq_true, beq_iff_eq, e, false_or] at h1
        have hne : ∀ d', o.dst = some d' → Operand.tmp d ≠ .tmp d' := fun d' hd' hx => by
          injection hx with hx
          rcases h1 with h1 | h1
          · rw [hd'] at h1; cases h1
          · rw [hd', hd, hx] at h1; simp at h1
        rw [Act.eval_put fun d' hd' => hne d' hd']
        have hvj := inv.vals j oj d hj h hd
        rcases Rf_cases sp i with h2 | ⟨y, hy, hyi, h2⟩
        · exact L.tG _ _ _ _ hvj (h2 ▸ hw)
        · refine L.tR y hy j oj hj (by rw [hyi]; exact e) ?_ _ _ _ hvj (h2 ▸ hw)
          cases hp : preds oj y.ix with
          | false => rfl
          | true =>
            obtain ⟨e2, he2, hbd2, hon2⟩ := preds_spec hp
            have h3 := inv.closed j oj hj h e2 he2 hbd2
            rw [hon2, hyi, getD_both hun] at h3
            cases h3
/-- What is known of an operation that comes up. -/
theorem known {n i : Nat} {o : Oper} {p : Plan} {s : Array Bool} {a : Act} {w : World} (inv : InvJ ops S sp T a0 s a w) (hi : i ∈ Region.ready .any ops s) (ho : ops[i]? = some o) (hb : opB ops n i o p = true)
    (hob1 : ObJ P S sp T a0 i o p) : Guarded a p.gd (StepOK P (Rf sp i) (T i) w ((execOp a.eval o).run P w)) (T i undef w) := by
  obtain ⟨hun, oi, hoi, hall⟩ := mem_ready.1 hi
  rw [ho] at hoi
  obtain rfl : o = oi := by simpa using hoi
  have hff : Ff sp i w := by
    unfold Ff
    cases h : sp.find? (fun x => x.ix == i) with
    | none => trivial
    | some x =>
      have hx : x.ix = i := by simpa using List.find?_some h
      exact inv.un x (List.mem_of_find?_eq_some h) (by rw [hx, getD_both hun])
  have hob1 := hob1 a w inv.st hff
  simp only [opB, Bool.and_eq_true] at hb
  obtain ⟨⟨⟨⟨⟨_, _⟩, hb3⟩, hb4⟩, _⟩, hb6⟩ := hb
  have hob2 := hob1.out fun x hx => by
    have h1 := List.all_eq_true.1 hb3 x hx
    simp only [Bool.and_eq_true] at h1
    obtain ⟨oj, hoj, hdj⟩ := dstB_spec h1.1
    obtain ⟨e, he, hbd, hon⟩ := preds_spec h1.2
    exact inv.vals x.1 oj x.2 hoj (hon ▸ hall e he hbd) hdj
  exact hob2.out fun k hk => by
    have h1 := List.all_eq_true.1 hb4 k hk
    refine inv.old k fun j oj hj hl hd => ?_
    have h2 := List.all_eq_true.1 h1 j (List.mem_range.2 (Array.getElem?_eq_some_iff.1 hj).1)
    simp only [hj, Bool.or_eq_true, beq_iff_eq] at h2
    rcases h2 with rfl | h2
    · rw [getD_both hun] at hl; cases hl
    · rcases h2 with h2 | h2
      · rw [hd] at h2; simp at h2
      · obtain ⟨e, he, hbd, hon⟩ := preds_spec h2
        have h3 := inv.closed j oj hj hl e he hbd
        rw [hon, getD_both hun] at h3
        cases h3
/-- What its guard says. -/
theorem asked {n i : Nat} {o : Oper} {p : Plan} {a : Act} {G N : Prop} (hb : opB ops n i o p = true) (h : Guarded a p.gd G N) : if Region.wanted o (yielded ops a.tmps) = true then G else N := by
  simp only [opB, Bool.and_eq_true] at hb
  have hb6 := hb.2
  unfold Region.wanted
  cases hg : o.guard with
  | none =>
    simp only [if_true]
    cases hpg : p.gd with
    | none => rw [hpg] at h; exact h
    | some q => simp [hg, hpg] at hb6
  | some q =>
    obtain ⟨g, b⟩ := q
    cases hpg : p.gd with
    | none => simp [hg, hpg] at hb6
    | some q2 =>
      obtain ⟨d, b'⟩ := q2
      simp only [hg, hpg, Bool.and_eq_true, beq_iff_eq] at hb6
      obtain ⟨hb7, rfl⟩ := hb6
      rw [hpg] at h
      simp only []
      by_cases hw : (yielded ops a.tmps g == some b) = true
      · rw [if_pos hw]; exact h.1 ((yielded_eval hb7).1 hw)
      · rw [if_neg hw]; exact h.2 fun h => hw ((yielded_eval hb7).2 h)
theorem op_ofJ {Q : Exit → Act → World → Prop} {K : Act → World → Prop} {n i : Nat} {o : Oper} {p : Plan} {s : Array Bool} {a : Act} {w : World} (L : Laws ops S sp T) (inv : InvJ ops S sp T a0 s a w) (hi : i ∈ Region.ready .any ops s) (ho : ops[i]? = some o) (hb : opB ops n i o p = true)
    (hob1 : ObJ P S sp T a0 i o p) (hK : ∀ v w', Rf sp i w w' → T i v w' → K (a.put o.dst v) w') : wpOp P ops Q i K a w := by
  have h := asked hb (known inv hi ho hb hob1)
  unfold wpOp
  simp only [ho]
  split at h
  · rename_i hw
    rw [if_pos hw]
    left
    unfold Oper.wp
    cases hr : (execOp a.eval o).run P w with
    | ok x w' =>
      rw [hr] at h
      cases x with
      | value u => exact hK _ _ h.1 h.2
      | skip => exact hK _ _ h.1 h.2
      | enter g args =>
        refine Calls.mono h fun e w'' he => ?_
        obtain ⟨v, rfl, h1, h2⟩ := he
        exact hK _ _ h1 h2
      | _ => exact h.elim
    | halt x w' => rw [hr] at h; exact h.elim
  · rename_i hw
    rw [if_neg hw]
    exact hK _ _ (L.Rrefl i w) h
theorem op_inJ {Q : Exit → Act → World → Prop} {K : Act → World → Prop} {n i : Nat} {o : Oper} {p : Plan} {s : Array Bool} {a : Act} {w : World} (L : Laws ops S sp T) (hd : ∀ c, o.op ≠ .defer c) (inv : InvJ ops S sp T a0 s a w) (hi : i ∈ Region.ready .any ops s) (ho : ops[i]? = some o) (hb : opB ops n i o p = true)
    (hob1 : ObJ P S sp T a0 i o p) (hK : ∀ v w', Rf sp i w w' → T i v w' → K (a.put o.dst v) w') : wpOpIn (Fence.wide.inRound l) m P ops Q i K a w := by
  have h := asked hb (known inv hi ho hb hob1)
  unfold wpOpIn
  simp only [ho]
  split at h
  · rename_i hw
    rw [if_pos hw]
    refine ⟨fun _ _ => trivial, ?_⟩
    rw [Oper.semAt_plain _ _ _ hd]
    cases hr : (execOp a.eval o).run P w with
    | ok x w' =>
      rw [hr] at h
      cases x with
      | value u => exact hK _ _ h.1 h.2
      | skip => exact hK _ _ h.1 h.2
      | enter g args =>
        refine ⟨fun hx => by simp [Fence.wide, Fence.inRound] at hx, CallsIn.inRound l (callsIn_wide.2 (Calls.mono h fun e w'' he => ?_))⟩
        obtain ⟨v, rfl, h1, h2⟩ := he
        exact hK _ _ h1 h2
      | _ => exact h.elim
    | halt x w' => rw [hr] at h; exact h.elim
  · rename_i hw
    rw [if_neg hw]
    exact ⟨fun _ _ => trivial, hK _ _ (L.Rrefl i w) h⟩
/-- The first h in whatever order, by one law for an operation that comes up (Wo), and one for what is behind (Wl). -/
theorem any_tailJ {Wn : Nat → Array Bool → Act → World → Prop} {Wo : Nat → (Act → World → Prop) → Act → World → Prop} {Wl : Act → World → Prop} {n h : Nat} {plan : List Plan} {t : List Oper} (L : Laws t.toArray S sp T)
    (hWn : ∀ f s a w, Region.ready .any t.toArray s ≠ [] → (∀ i ∈ Region.ready .any t.toArray s, Wo i (Wn f (s.setIfInBounds i true)) a w) → Wn (f + 1) s a w)
    (hWo : ∀ (i : Nat) (o : Oper) (p : Plan) (s : Array Bool) (a : Act) (w : World) (K : Act → World → Prop), InvJ t.toArray S sp T a0 s a w → i ∈ Region.ready .any t.toArray s → t.toArray[i]? = some o → opB t.toArray n i o p = true → ObJ P S sp T a0 i o p → (∀ v w', Rf sp i w w' → T i v w' → K (a.put o.dst v) w') → Wo i K a w)
    (hWl : ∀ s a w, Region.seqB .any t.toArray (t.drop h).length h s = true → Wl a w → Wn (t.drop h).length s a w)
    (hB : okB t.toArray n plan = true) (hn : a0.tmps.size = n) (hh : h ≤ t.toArray.size) (hs : h < t.toArray.size → Region.sinkB .any t.toArray h = true ∧ Region.chainB .any t.toArray h = true)
    (hq : Region.seqB .any t.toArray (t.drop h).length h (headS t.toArray.size h) = true)
    (hob : ObsJ P S sp T a0 0 (t.take h) plan) (hQ : ∀ s a w, InvJ t.toArray S sp T a0 s a w → (∀ i, i < h → s.getD i false = true) → (∀ j, h ≤ j → j < t.toArray.size → s.getD j true = false) → Wl a w) :
    ∀ (f : Nat) (s : Array Bool) (a : Act) (w : World), (s.toList.take h).count false = f → InvJ t.toArray S sp T a0 s a w → (∀ j, h ≤ j → j < t.toArray.size → s.getD j true = false) → Wn (f + (t.drop h).length) s a w := by
  intro f
  induction f with
  | zero =>
    intro s a w hf inv htl
    have hall : ∀ i, i < h → s.getD i false = true := fun i hi => by
      have hlt : i < s.size := by rw [inv.size]; omega
      by_cases e : s[i] = true
      · simp [hlt, e]
      · exfalso
        have h1 : s[i] = false := by simpa using e
        have : false ∈ s.toList.take h := by
          rw [List.mem_take_iff_getElem]
          exact ⟨i, by simp; omega, by simpa using h1⟩
        rw [List.count_eq_zero] at hf
        exact hf this
    have hse : s = headS t.toArray.size h := by
      apply Array.ext
      · simp [headS, inv.size]
      · intro i h1 h2
        have hi : i < t.toArray.size := by rw [← inv.size]; exact h1
        simp only [headS, List.getElem_toArray, List.getElem_map, List.getElem_range]
        by_cases e : i < h
        · have := hall i e
          simp only [e, decide_true]
          simpa [h1] using this
        · have := htl i (by omega) hi
          simp only [e, decide_false]
          simpa [h1] using this
    rw [Nat.zero_add]
    exact hWl s a w (by rw [hse]; exact hq) (hQ s a w inv hall htl)
  | succ f ih =>
    intro s a w hf inv htl
    rw [show f + 1 + (t.drop h).length = (f + (t.drop h).length) + 1 from by omega]
    have hB' : ∀ (i : Nat) (o : Oper), t.toArray[i]? = some o → ∃ p, opB t.toArray n i o p = true := fun i o ho => (okB_at hB ho).imp fun p h => h.2
    have hex : ∃ k, k < h ∧ s.getD k true = false := by
      have : 0 < (s.toList.take h).count false := by omega
      rw [List.count_pos_iff, List.mem_take_iff_getElem] at this
      obtain ⟨k, hk, e⟩ := this
      have hk1 : k < h := by simp at hk; omega
      have hk2 : k < s.size := by simp at hk; omega
      have e' : s[k] = false := by simpa using e
      exact ⟨k, hk1, by simp [hk2, e']⟩
    obtain ⟨k0, hk0, hk0s⟩ := hex
    refine hWn _ _ _ _ (fun hr => ?_) fun i hi => ?_
    · have h1 := done hB' inv.size hr k0 (by omega)
      have h2 := getD_both hk0s
      rw [h2] at h1
      cases h1
    · obtain ⟨hun, o, ho, hall⟩ := mem_ready.1 hi
      have hlt : i < s.size := by rw [inv.size]; exact (Array.getElem?_eq_some_iff.1 ho).1
      have hhead : HeadInv .any t.toArray h s := ⟨inv.size, inv.closed, htl⟩
      have hih : i < h := by
        refine Nat.lt_of_not_le fun hle => ?_
        have hlt' : h < t.toArray.size := by have := inv.size; omega
        exact tail_waits (hs hlt').1 (hs hlt').2 hlt' hhead _ k0 rfl hk0 hk0s i hle hi
      have hcnt : ((s.setIfInBounds i true).toList.take h).count false = f := by
        have h1 : s[i] = false := by simpa [hlt] using hun
        rw [Array.toList_setIfInBounds, List.take_set, List.count_set (by simp; omega)]
        simp [h1, hf]
      obtain ⟨p, hp, hb⟩ := okB_at hB ho
      have hob1 := obsJ_at hob (i := i) (by rw [List.getElem?_take_of_lt hih]; simpa using ho) hp
      rw [Nat.zero_add] at hob1
      exact hWo i o p s a w _ inv hi ho hb hob1 fun v w' h1 h2 => ih _ _ _ hcnt (inv.step L hn hi ho hb h1 h2) fun j hj hj' => by
        rw [getD_set_ne true (by omega)]; exact htl j hj hj'
theorem invJ_end {t : List Oper} {h : Nat} {es : List (Nat × Nat)} {G : Act → Prop} (hE : allB t h es = true) {s : Array Bool} {a : Act} {w : World} (inv : InvJ t.toArray S sp T a0 s a w) (hall : ∀ i, i < h → s.getD i false = true) (htl : ∀ j, h ≤ j → j < t.toArray.size → s.getD j true = false)
    (hQ : Pre T a w es (G (puts a es a0))) : G a := by
  simp only [allB, Bool.and_eq_true] at hE
  have h1 := hQ.out fun x hx => by
    have h5 := List.all_eq_true.1 hE.1 x hx
    simp only [Bool.and_eq_true, decide_eq_true_eq] at h5
    obtain ⟨o, ho, hd⟩ := dstB_spec h5.2
    exact inv.vals x.1 o x.2 ho (hall _ h5.1) hd
  rw [puts_eq inv.tmps.symm inv.defers.symm fun k => ?_] at h1
  · exact h1
  · by_cases e : k ∈ es.map (·.2)
    · exact .inr e
    · refine .inl (inv.old k fun j o hj hl hd => ?_).symm
      have hjh : j < h := Nat.lt_of_not_le fun hle => by
        rw [getD_both (htl j hle (Array.getElem?_eq_some_iff.1 hj).1)] at hl; cases hl
      have h5 := List.all_eq_true.1 hE.2 j (List.mem_range.2 hjh)
      simp only [hj, hd] at h5
      rw [List.any_eq_true] at h5
      obtain ⟨x, hx, hk⟩ := h5
      exact e (List.mem_map.2 ⟨x, hx, by simpa using hk⟩)
/-- The first h operations may come in whatever order; the rest, if there is one, comes behind them, one behind the other. -/
def tailJ (t : List Oper) (h : Nat) : Bool := decide (h ≤ t.toArray.size) && (decide (t.toArray.size ≤ h) || (Region.sinkB .any t.toArray h && Region.chainB .any t.toArray h)) && Region.seqB .any t.toArray (t.drop h).length h (headS t.toArray.size h)
theorem inv0 {t : List Oper} {w0 : World} (h0 : S { w0 with drawn := w0.drawn + 1 }) (hf : ∀ x ∈ sp, x.fact { w0 with drawn := w0.drawn + 1 }) : InvJ t.toArray S sp T a0 (Array.replicate t.toArray.size false) a0 { w0 with drawn := w0.drawn + 1 } :=
  ⟨by simp, fun j oj _ hl => (by rw [getD_replicate_false] at hl; cases hl), h0, fun x hx _ => hf x hx, rfl, rfl, fun _ _ => rfl, fun j o d _ hl => (by rw [getD_replicate_false] at hl; cases hl)⟩
/-- **Each of the first h operations once, whatever order comes; then the rest.** -/
theorem regionJ {w0 : World} {id : Nat} {Q : Exit → Act → World → Prop} {t : List Oper} (S : World → Prop) (sp : List Sp) (Ts : List (Value → World → Prop)) (n h : Nat) (plan : List Plan) (es : List (Nat × Nat)) (hm : P.follows .mixedOrders = true) (hn : a0.tmps.size = n) (hB : okB t.toArray n plan = true) (hT : tailJ t h = true) (hE : allB t h es = true)
    (L : Laws t.toArray S sp (tys Ts)) (h0 : S { w0 with drawn := w0.drawn + 1 }) (hf : ∀ x ∈ sp, x.fact { w0 with drawn := w0.drawn + 1 })
    (hob : ObsJ P S sp (tys Ts) a0 0 (t.take h) plan) (hQ : ∀ a w, S w → Pre (tys Ts) a w es (wpList P t.toArray Q (t.drop h) (puts a es a0) w)) : (Code.region id t.toArray true).wp P Q a0 w0 := by
  simp only [tailJ, Bool.and_eq_true, Bool.or_eq_true, decide_eq_true_eq] at hT
  obtain ⟨⟨h1, h2⟩, h4⟩ := hT
  have h1' : h ≤ t.length := by simpa using h1
  have hsz : h + (t.drop h).length = t.toArray.size := by simp; omega
  have key := any_tailJ (P := P) (S := S) (sp := sp) (T := tys Ts) (a0 := a0) (Wn := fun f s a w => wpAny P .any t.toArray Q f s a w) (Wo := fun i K a w => wpOp P t.toArray Q i K a w) (Wl := fun a w => wpList P t.toArray Q (t.drop h) a w) L
    (fun f s a w hne hall => ⟨fun hr => absurd hr hne, hall⟩) (fun i o p s a w K inv hi ho hb hob hK => op_ofJ L inv hi ho hb hob hK)
    (fun s a w hB hl => wpAny_of_seq (t.drop h) h s a w (fun j => by simp [List.getElem?_drop]) hB hl) hB hn h1 (fun hlt => h2.resolve_left (by omega)) h4 hob
    (fun s a w inv hall htl => invJ_end (G := fun a => wpList P t.toArray Q (t.drop h) a w) hE inv hall htl (hQ a w inv.st)) h (Array.replicate t.toArray.size false) a0 { w0 with drawn := w0.drawn + 1 } (by simp; omega) (inv0 h0 hf) (fun j _ hj => getD_in (by simpa using hj) (getD_replicate_false _ _))
  rw [hsz] at key
  exact wp_region_any hm key
/-- The same inside a round. -/
theorem regionJI {w0 : World} {id : Nat} {Q : Exit → Act → World → Prop} {t : List Oper} (S : World → Prop) (sp : List Sp) (Ts : List (Value → World → Prop)) (n h : Nat) (plan : List Plan) (es : List (Nat × Nat)) (hm : P.follows .mixedOrders = true) (hn : a0.tmps.size = n) (hB : okB t.toArray n plan = true) (hT : tailJ t h = true) (hE : allB t h es = true)
    (hd : Gq.noDefer t = true) (L : Laws t.toArray S sp (tys Ts)) (h0 : S { w0 with drawn := w0.drawn + 1 }) (hf : ∀ x ∈ sp, x.fact { w0 with drawn := w0.drawn + 1 })
    (hob : ObsJ P S sp (tys Ts) a0 0 (t.take h) plan) (hQ : ∀ a w, S w → Pre (tys Ts) a w es (wpListIn (Fence.wide.inRound l) m P t.toArray Q (t.drop h) (puts a es a0) w)) : (Code.region id t.toArray true).wpIn (Fence.wide.inRound l) m P Q a0 w0 := by
  simp only [tailJ, Bool.and_eq_true, Bool.or_eq_true, decide_eq_true_eq] at hT
  obtain ⟨⟨h1, h2⟩, h4⟩ := hT
  have h1' : h ≤ t.length := by simpa using h1
  have hsz : h + (t.drop h).length = t.toArray.size := by simp; omega
  have key := any_tailJ (P := P) (S := S) (sp := sp) (T := tys Ts) (a0 := a0) (Wn := fun f s a w => wpAnyIn (Fence.wide.inRound l) m P .any t.toArray Q f s a w) (Wo := fun i K a w => wpOpIn (Fence.wide.inRound l) m P t.toArray Q i K a w) (Wl := fun a w => wpListIn (Fence.wide.inRound l) m P t.toArray Q (t.drop h) a w) L
    (fun f s a w hne hall => ⟨fun hr => absurd hr hne, hall⟩) (fun i o p s a w K inv hi ho hb hob hK => op_inJ L (Gq.noDefer_spec hd i o ho) inv hi ho hb hob hK)
    (fun s a w hB hl => Gq.anyIn_of_seq (t.drop h) h s a w (fun j => by simp [List.getElem?_drop]) hB hl) hB hn h1 (fun hlt => h2.resolve_left (by omega)) h4 hob
    (fun s a w inv hall htl => invJ_end (G := fun a => wpListIn (Fence.wide.inRound l) m P t.toArray Q (t.drop h) a w) hE inv hall htl (hQ a w inv.st)) h (Array.replicate t.toArray.size false) a0 { w0 with drawn := w0.drawn + 1 } (by simp; omega) (inv0 h0 hf) (fun j _ hj => getD_in (by simpa using hj) (getD_replicate_false _ _))
  rw [hsz] at key
  exact wpIn_region_any hm key
/-- What growth bears another relation bears, too. -/
def MonosBy (r : World → World → Prop) : List (Value → World → Prop) → Prop
  | [] => True
  | V :: t => (∀ v w w', V v w → r w w' → V v w') ∧ MonosBy r t
theorem monosBy_at {r : World → World → Prop} : ∀ {Ts : List (Value → World → Prop)}, MonosBy r Ts → ∀ i v w w', tys Ts i v w → r w w' → tys Ts i v w'
  | [], _, _, _, _, _, _, _ => trivial
  | _ :: _, h, 0, v, w, w', hv, hg => h.1 v w w' hv hg
  | _ :: _, h, i + 1, v, w, w', hv, hg => monosBy_at h.2 i v w w' hv hg
/-- Nothing is turned. -/
theorem Laws.grow {Ts : List (Value → World → Prop)} (hS : ∀ w w', S w → Gr w w' → S w') (hm : Monos Ts) : Laws ops S [] (tys Ts) :=
  ⟨fun _ h => (by cases h), hS, fun _ h => (by cases h), fun _ h => (by cases h), fun _ h => (by cases h), monos_at hm, fun _ h => (by cases h)⟩
/-- One operation turns something; of those values that do not come behind it each bears it. -/
theorem Laws.one {Ts : List (Value → World → Prop)} {x : Sp} (hr : ∀ w, x.rel w w) (hS : ∀ w w', S w → Gr w w' → S w') (hS' : ∀ w w', S w → x.rel w w' → S w') (hF : ∀ w w', x.fact w → Gr w w' → x.fact w') (hm : Monos Ts)
    (hx : ∀ j, j ≠ x.ix → (∀ o, ops[j]? = some o → preds o x.ix = false) → ∀ v w w', tys Ts j v w → x.rel w w' → tys Ts j v w') : Laws ops S [x] (tys Ts) :=
  ⟨fun y h => (by rw [List.mem_singleton.1 h]; exact hr), hS, fun y h => (by rw [List.mem_singleton.1 h]; exact hS'), fun y h => (by rw [List.mem_singleton.1 h]; exact hF),
   fun y h z k hne => (by rw [List.mem_singleton.1 h, List.mem_singleton.1 k] at hne; exact absurd rfl hne), monos_at hm, fun y h j o ho hj hp => by
    rw [List.mem_singleton.1 h] at hj hp ⊢
    exact hx j hj fun o' ho' => by rw [ho] at ho'; injection ho' with ho'; rw [← ho']; exact hp⟩
end
section
variable {P : Program} {w : World} {V : Value → World → Prop} {ρ : Operand → Value} {o : Oper} {R : World → World → Prop}
theorem ok_runR {v : Value} {w' : World} (h : (execOp ρ o).run P w = .ok (.value v) w') (hg : R w w') (hv : V v w') : StepOK P R V w ((execOp ρ o).run P w) := by
  rw [h]; exact ⟨hg, hv⟩
end
end Gt
