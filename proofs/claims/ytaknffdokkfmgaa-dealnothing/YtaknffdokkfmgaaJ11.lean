import Derived.Test.YtaknffdokkfmgaaJ4
import Derived.Test.YtaknffdokkfmgaaJ5
import Derived.Test.YtaknffdokkfmgaaJ6
import Derived.Test.YtaknffdokkfmgaaJ7
import Derived.Test.YtaknffdokkfmgaaJ8
import Derived.Test.YtaknffdokkfmgaaJ9
import Derived.Test.YtaknffdokkfmgaaJ10
section
/- A region that leaves its order open, where some operations turn memory that was there ('append' onto a row of one's own): of each operation's value a predicate; of each operation that turns something what it turns, and what it may count on as long as it has not come. Outside a round of a range over a function, and inside one. -/
namespace Gt
open Go Go.RowKit
/-- An operation that turns something: its number; what it turns; what it may count on as long as it has not come. -/
structure Sp where
  ix : Nat
  rel : World → World → Prop
  fact : World → Prop
def Rf (sp : List Sp) (k : Nat) : World → World → Prop := match sp.find? (fun x => x.ix == k) with | some x => x.rel | none => Gr
def Ff (sp : List Sp) (k : Nat) : World → Prop := match sp.find? (fun x => x.ix == k) with | some x => x.fact | none => fun _ => True
structure Laws (ops : Array Oper) (S : World → Prop) (sp : List Sp) (T : Nat → Value → World → Prop) : Prop where
  refl : ∀ x ∈ sp, ∀ w, x.rel w w
  sG : ∀ w w', S w → Gr w w' → S w'
  sR : ∀ x ∈ sp, ∀ w w', S w → x.rel w w' → S w'
  fG : ∀ x ∈ sp, ∀ w w', x.fact w → Gr w w' → x.fact w'
  fR : ∀ x ∈ sp, ∀ y ∈ sp, x.ix ≠ y.ix → ∀ w w', x.fact w → y.rel w w' → x.fact w'
  tG : ∀ j v w w', T j v w → Gr w w' → T j v w'
  tR : ∀ y ∈ sp, ∀ j o, ops[j]? = some o → j ≠ y.ix → preds o y.ix = false → ∀ v w w', T j v w → y.rel w w' → T j v w'
def ObJ (P : Program) (S : World → Prop) (sp : List Sp) (T : Nat → Value → World → Prop) (a0 : Act) (i : Nat) (o : Oper) (p : Plan) : Prop :=
  ∀ a w, S w → Ff sp i w → Pre T a w p.ds (Kept a a0 p.ks (Guarded a p.gd (StepOK P (Rf sp i) (T i) w ((execOp a.eval o).run P w)) (T i undef w)))
def ObsJ (P : Program) (S : World → Prop) (sp : List Sp) (T : Nat → Value → World → Prop) (a0 : Act) : Nat → List Oper → List Plan → Prop
  | i, o :: t, p :: ps => ObJ P S sp T a0 i o p ∧ ObsJ P S sp T a0 (i + 1) t ps
  | _, _, _ => True
section
variable {P : Program} {ops : Array Oper} {S : World → Prop} {sp : List Sp} {T : Nat → Value → World → Prop} {a0 : Act} {l m : Nat}
structure InvJ (ops : Array Oper) (S : World → Prop) (sp : List Sp) (T : Nat → Value → World → Prop) (a0 : Act) (s : Array Bool) (a : Act) (w : World) : Prop where
  size : s.size = ops.size
  closed : ∀ j oj, ops[j]? = some oj → s.getD j false = true → ∀ e ∈ oj.after, Region.binds .any e = true → s.getD e.on false = true
  st : S w
  un : ∀ x ∈ sp, s.getD x.ix false = false → x.fact w
  tmps : a.tmps.size = a0.tmps.size
  defers : a.defers = a0.defers
  old : ∀ k, (∀ j o, ops[j]? = some o → s.getD j false = true → o.dst ≠ some k) → a.eval (.tmp k) = a0.eval (.tmp k)
  vals : ∀ j o d, ops[j]? = some o → s.getD j false = true → o.dst = some d → T j (a.eval (.tmp d)) w
theorem obsJ_at {t : List Oper} : ∀ {plan : List Plan} {k : Nat}, ObsJ P S sp T a0 k t plan → ∀ {i : Nat} {o : Oper} {p : Plan}, t[i]? = some o → plan[i]? = some p → ObJ P S sp T a0 (k + i) o p := by
  induction t with
  | nil => intro plan k _ i o p h; simp at h
  | cons x t ih =>
    intro plan k h i o p h1 h2
    cases plan with
    | nil => simp at h2
    | cons q ps =>
      cases i with
      | zero => simp at h1 h2; subst h1 h2; exact h.1
      | succ i =>
        have := ih h.2 (i := i) (by simpa using h1) (by simpa using h2)
        rw [show k + (i + 1) = k + 1 + i from by omega]; exact this
theorem Rf_cases (sp : List Sp) (k : Nat) : Rf sp k = Gr ∨ ∃ x ∈ sp, x.ix = k ∧ Rf sp k = x.rel := by
  unfold Rf
  cases h : sp.find? (fun x => x.ix == k) with
  | none => exact .inl rfl
  | some x => exact .inr ⟨x, List.mem_of_find?_eq_some h, by simpa using List.find?_some h, rfl⟩
theorem Laws.Rrefl (L : Laws ops S sp T) (k : Nat) (w : World) : Rf sp k w w := by
  rcases Rf_cases sp k with h | ⟨x, hx, _, h⟩
  · rw [h]; exact Gr.refl w
  · rw [h]; exact L.refl x hx w
theorem InvJ.step {s : Array Bool} {a : Act} {w w' : World} {i : Nat} {o : Oper} {v : Value} {n : Nat} {p : Plan} (inv : InvJ ops S sp T a0 s a w) (L : Laws ops S sp T)
    (hn : a0.tmps.size = n) (hi : i ∈ Region.ready .any ops s) (ho : ops[i]? = some o) (hb : opB ops n i o p = true) (hw : Rf sp i w w') (hv : T i v w') : InvJ ops S sp T a0 (s.setIfInBounds i true) (a.put o.dst v) w' := by
  obtain ⟨hun, oi, hoi, hall⟩ := mem_ready.1 hi
  rw [ho] at hoi
  obtain rfl : o = oi := by simpa using hoi
  have hsz : i < s.size := by rw [inv.size]; exact (Array.getElem?_eq_some_iff.1 ho).1
  simp only [opB, Bool.and_eq_true] at hb
  obtain ⟨⟨⟨⟨⟨hb1, _⟩, _⟩, _⟩, hb5⟩, _⟩ := hb
  have hset : ∀ j, (s.setIfInBounds i true).getD j false = true → j = i ∨ s.getD j false = true := fun j hj => by
    by_cases e : j = i
    · exact .inl e
    · right; rwa [getD_set_ne false (Ne.symm e)] at hj
  have hst : S w' := by
    rcases Rf_cases sp i with h | ⟨x, hx, _, h⟩
    · exact L.sG _ _ inv.st (h ▸ hw)
    · exact L.sR x hx _ _ inv.st (h ▸ hw)
  refine ⟨by simp [inv.size], fun j oj hj hl e he hbd => ?_, hst, fun x hx hl => ?_, ?_, ?_, fun k hk => ?_, fun j oj d hj hl hd => ?_⟩
  · rcases hset j hl with rfl | h
    · rw [ho] at hj; obtain rfl : o = oj := by simpa using hj
      exact getD_set_true (hall e he hbd)
    · exact getD_set_true (inv.closed j oj hj h e he hbd)
  · have hne : x.ix ≠ i := fun e => by
      rw [e] at hl
      have : (s.setIfInBounds i true).getD i false = true := by simp [hsz]
      rw [this] at hl; cases hl
    rw [getD_set_ne false (Ne.symm hne)] at hl
    have hf := inv.un x hx hl
    rcases Rf_cases sp i with h | ⟨y, hy, hyi, h⟩
    · exact L.fG x hx _ _ hf (h ▸ hw)
    · exact L.fR x hx y hy (by rw [hyi]; exact hne) _ _ hf (h ▸ hw)
  · rw [← inv.tmps]; cases o.dst <;> simp [Act.put]
  · rw [← inv.defers]; cases o.dst <;> simp [Act.put]
  · have h1 : o.dst ≠ some k := hk i o ho (by simp [hsz])
    rw [Act.eval_put fun d hd hx => h1 (by rw [hd]; injection hx with hx; rw [hx])]
    exact inv.old k fun j oj hj hl => hk j oj hj (getD_set_true hl)
  · rcases hset j hl with rfl | h
    · rw [ho] at hj; obtain rfl : o = oj := by simpa using hj
      rw [hd] at hb1 ⊢
      rw [eval_put_same (by rw [inv.tmps, hn]; simpa using hb1)]
      exact hv
    · by_cases e : j = i
      · subst e; rw [getD_both hun] at h; cases h
      · have h1 := (List.all_eq_true.1 hb5) j (List.mem_range.2 (Array.getElem?_eq_some_iff.1 hj).1)
        simp only [hj, Bool.or_eq_true, beq_iff_eq, e, false_or] at h1
        have hne : ∀ d', o.dst = some d' → Operand.tmp d ≠ .tmp d' := fun d' hd' hx => by
          injection hx with hx
          rcases h1 with h1 | h1
          · rw [hd'] at h1; cases h1
          · rw [hd', hd, hx] at h1; simp at h1
        rw [Act.eval_put fun d' hd' => hne d' hd']
        have hvj := inv.vals j oj d hj h hd
        rcases Rf_cases sp i with h2 | ⟨y, hy, hyi, h2⟩
        · exact L.tG _ _ _ _ hvj (h2 ▸ hw)
        · refine L.tR y hy j oj hj (by rw [hyi]; exact e) ?_ _ _ _ hvj (h2 ▸ hw)
          cases hp : preds oj y.ix with
          | false => rfl
          | true =>
            obtain ⟨e2, he2, hbd2, hon2⟩ := preds_spec hp
            have h3 := inv.closed j oj hj h e2 he2 hbd2
            rw [hon2, hyi, getD_both hun] at h3
            cases h3
/-- What is known of an operation that comes up. -/
theorem known {n i : Nat} {o : Oper} {p : Plan} {s : Array Bool} {a : Act} {w : World} (inv : InvJ ops S sp T a0 s a w) (hi : i ∈ Region.ready .any ops s) (ho : ops[i]? = some o) (hb : opB ops n i o p = true)
    (hob1 : ObJ P S sp T a0 i o p) : Guarded a p.gd (StepOK P (Rf sp i) (T i) w ((execOp a.eval o).run P w)) (T i undef w) := by
  obtain ⟨hun, oi, hoi, hall⟩ := mem_ready.1 hi
  rw [ho] at hoi
  obtain rfl : o = oi := by simpa using hoi
  have hff : Ff sp i w := by
    unfold Ff
    cases h : sp.find? (fun x => x.ix == i) with
    | none => trivial
    | some x =>
      have hx : x.ix = i := by simpa using List.find?_some h
      exact inv.un x (List.mem_of_find?_eq_some h) (by rw [hx, getD_both hun])
  have hob1 := hob1 a w inv.st hff
  simp only [opB, Bool.and_eq_true] at hb
  obtain ⟨⟨⟨⟨⟨_, _⟩, hb3⟩, hb4⟩, _⟩, hb6⟩ := hb
  have hob2 := hob1.out fun x hx => by
    have h1 := List.all_eq_true.1 hb3 x hx
    simp only [Bool.and_eq_true] at h1
    obtain ⟨oj, hoj, hdj⟩ := dstB_spec h1.1
    obtain ⟨e, he, hbd, hon⟩ := preds_spec h1.2
    exact inv.vals x.1 oj x.2 hoj (hon ▸ hall e he hbd) hdj
  exact hob2.out fun k hk => by
    have h1 := List.all_eq_true.1 hb4 k hk
    refine inv.old k fun j oj hj hl hd => ?_
    have h2 := List.all_eq_true.1 h1 j (List.mem_range.2 (Array.getElem?_eq_some_iff.1 hj).1)
    simp only [hj, Bool.or_eq_true, beq_iff_eq] at h2
    rcases h2 with rfl | h2
    · rw [getD_both hun] at hl; cases hl
    · rcases h2 with h2 | h2
      · rw [hd] at h2; simp at h2
      · obtain ⟨e, he, hbd, hon⟩ := preds_spec h2
        have h3 := inv.closed j oj hj hl e he hbd
        rw [hon, getD_both hun] at h3
        cases h3
/-- What its guard says. -/
theorem asked {n i : Nat} {o : Oper} {p : Plan} {a : Act} {G N : Prop} (hb : opB ops n i o p = true) (h : Guarded a p.gd G N) : if Region.wanted o (yielded ops a.tmps) = true then G else N := by
  simp only [opB, Bool.and_eq_true] at hb
  have hb6 := hb.2
  unfold Region.wanted
  cases hg : o.guard with
  | none =>
    simp only [if_true]
    cases hpg : p.gd with
    | none => rw [hpg] at h; exact h
    | some q => simp [hg, hpg] at hb6
  | some q =>
    obtain ⟨g, b⟩ := q
    cases hpg : p.gd with
    | none => simp [hg, hpg] at hb6
    | some q2 =>
      obtain ⟨d, b'⟩ := q2
      simp only [hg, hpg, Bool.and_eq_true, beq_iff_eq] at hb6
      obtain ⟨hb7, rfl⟩ := hb6
      rw [hpg] at h
      simp only []
      by_cases hw : (yielded ops a.tmps g == some b) = true
      · rw [if_pos hw]; exact h.1 ((yielded_eval hb7).1 hw)
      · rw [if_neg hw]; exact h.2 fun h => hw ((yielded_eval hb7).2 h)
theorem op_ofJ {Q : Exit → Act → World → Prop} {K : Act → World → Prop} {n i : Nat} {o : Oper} {p : Plan} {s : Array Bool} {a : Act} {w : World} (L : Laws ops S sp T) (inv : InvJ ops S sp T a0 s a w) (hi : i ∈ Region.ready .any ops s) (ho : ops[i]? = some o) (hb : opB ops n i o p = true)
    (hob1 : ObJ P S sp T a0 i o p) (hK : ∀ v w', Rf sp i w w' → T i v w' → K (a.put o.dst v) w') : wpOp P ops Q i K a w := by
  have h := asked hb (known inv hi ho hb hob1)
  unfold wpOp
  simp only [ho]
  split at h
  · rename_i hw
    rw [if_pos hw]
    left
    unfold Oper.wp
    cases hr : (execOp a.eval o).run P w with
    | ok x w' =>
      rw [hr] at h
      cases x with
      | value u => exact hK _ _ h.1 h.2
      | skip => exact hK _ _ h.1 h.2
      | enter g args =>
        refine Calls.mono h fun e w'' he => ?_
        obtain ⟨v, rfl, h1, h2⟩ := he
        exact hK _ _ h1 h2
      | _ => exact h.elim
    | halt x w' => rw [hr] at h; exact h.elim
  · rename_i hw
    rw [if_neg hw]
    exact hK _ _ (L.Rrefl i w) h
theorem op_inJ {Q : Exit → Act → World → Prop} {K : Act → World → Prop} {n i : Nat} {o : Oper} {p : Plan} {s : Array Bool} {a : Act} {w : World} (L : Laws ops S sp T) (hd : ∀ c, o.op ≠ .defer c) (inv : InvJ ops S sp T a0 s a w) (hi : i ∈ Region.ready .any ops s) (ho : ops[i]? = some o) (hb : opB ops n i o p = true)
    (hob1 : ObJ P S sp T a0 i o p) (hK : ∀ v w', Rf sp i w w' → T i v w' → K (a.put o.dst v) w') : wpOpIn (Fence.wide.inRound l) m P ops Q i K a w := by
  have h := asked hb (known inv hi ho hb hob1)
  unfold wpOpIn
  simp only [ho]
  split at h
  · rename_i hw
    rw [if_pos hw]
    refine ⟨fun _ _ => trivial, ?_⟩
    rw [Oper.semAt_plain _ _ _ hd]
    cases hr : (execOp a.eval o).run P w with
    | ok x w' =>
      rw [hr] at h
      cases x with
      | value u => exact hK _ _ h.1 h.2
      | skip => exact hK _ _ h.1 h.2
      | enter g args =>
        refine ⟨fun hx => by simp [Fence.wide, Fence.inRound] at hx, CallsIn.inRound l (callsIn_wide.2 (Calls.mono h fun e w'' he => ?_))⟩
        obtain ⟨v, rfl, h1, h2⟩ := he
        exact hK _ _ h1 h2
      | _ => exact h.elim
    | halt x w' => rw [hr] at h; exact h.elim
  · rename_i hw
    rw [if_neg hw]
    exact ⟨fun _ _ => trivial, hK _ _ (L.Rrefl i w) h⟩
/-- The first h in whatever order, by one law for an operation that comes up (Wo), and one for what is behind (Wl). -/
theorem any_tailJ {Wn : Nat → Array Bool → Act → World → Prop} {Wo : Nat → (Act → World → Prop) → Act → World → Prop} {Wl : Act → World → Prop} {n h : Nat} {plan : List Plan} {t : List Oper} (L : Laws t.toArray S sp T)
    (hWn : ∀ f s a w, Region.ready .any t.toArray s ≠ [] → (∀ i ∈ Region.ready .any t.toArray s, Wo i (Wn f (s.setIfInBounds i true)) a w) → Wn (f + 1) s a w)
    (hWo : ∀ (i : Nat) (o : Oper) (p : Plan) (s : Array Bool) (a : Act) (w : World) (K : Act → World → Prop), InvJ t.toArray S sp T a0 s a w → i ∈ Region.ready .any t.toArray s → t.toArray[i]? = some o → opB t.toArray n i o p = true → ObJ P S sp T a0 i o p → (∀ v w', Rf sp i w w' → T i v w' → K (a.put o.dst v) w') → Wo i K a w)
    (hWl : ∀ s a w, Region.seqB .any t.toArray (t.drop h).length h s = true → Wl a w → Wn (t.drop h).length s a w)
    (hB : okB t.toArray n plan = true) (hn : a0.tmps.size = n) (hh : h ≤ t.toArray.size) (hs : h < t.toArray.size → Region.sinkB .any t.toArray h = true ∧ Region.chainB .any t.toArray h = true)
    (hq : Region.seqB .any t.toArray (t.drop h).length h (headS t.toArray.size h) = true)
    (hob : ObsJ P S sp T a0 0 (t.take h) plan) (hQ : ∀ s a w, InvJ t.toArray S sp T a0 s a w → (∀ i, i < h → s.getD i false = true) → (∀ j, h ≤ j → j < t.toArray.size → s.getD j true = false) → Wl a w) :
    ∀ (f : Nat) (s : Array Bool) (a : Act) (w : World), (s.toList.take h).count false = f → InvJ t.toArray S sp T a0 s a w → (∀ j, h ≤ j → j < t.toArray.size → s.getD j true = false) → Wn (f + (t.drop h).length) s a w := by
  intro f
  induction f with
  | zero =>
    intro s a w hf inv htl
    have hall : ∀ i, i < h → s.getD i false = true := fun i hi => by
      have hlt : i < s.size := by rw [inv.size]; omega
      by_cases e : s[i] = true
      · simp [hlt, e]
      · exfalso
        have h1 : s[i] = false := by simpa using e
        have : false ∈ s.toList.take h := by
          rw [List.mem_take_iff_getElem]
          exact ⟨i, by simp; omega, by simpa using h1⟩
        rw [List.count_eq_zero] at hf
        exact hf this
    have hse : s = headS t.toArray.size h := by
      apply Array.ext
      · simp [headS, inv.size]
      · intro i h1 h2
        have hi : i < t.toArray.size := by rw [← inv.size]; exact h1
        simp only [headS, List.getElem_toArray, List.getElem_map, List.getElem_range]
        by_cases e : i < h
        · have := hall i e
          simp only [e, decide_true]
          simpa [h1] using this
        · have := htl i (by omega) hi
          simp only [e, decide_false]
          simpa [h1] using this
    rw [Nat.zero_add]
    exact hWl s a w (by rw [hse]; exact hq) (hQ s a w inv hall htl)
  | succ f ih =>
    intro s a w hf inv htl
    rw [show f + 1 + (t.drop h).length = (f + (t.drop h).length) + 1 from by omega]
    have hB' : ∀ (i : Nat) (o : Oper), t.toArray[i]? = some o → ∃ p, opB t.toArray n i o p = true := fun i o ho => (okB_at hB ho).imp fun p h => h.2
    have hex : ∃ k, k < h ∧ s.getD k true = false := by
      have : 0 < (s.toList.take h).count false := by omega
      rw [List.count_pos_iff, List.mem_take_iff_getElem] at this
      obtain ⟨k, hk, e⟩ := this
      have hk1 : k < h := by simp at hk; omega
      have hk2 : k < s.size := by simp at hk; omega
      have e' : s[k] = false := by simpa using e
      exact ⟨k, hk1, by simp [hk2, e']⟩
    obtain ⟨k0, hk0, hk0s⟩ := hex
    refine hWn _ _ _ _ (fun hr => ?_) fun i hi => ?_
    · have h1 := done hB' inv.size hr k0 (by omega)
      have h2 := getD_both hk0s
      rw [h2] at h1
      cases h1
    · obtain ⟨hun, o, ho, hall⟩ := mem_ready.1 hi
      have hlt : i < s.size := by rw [inv.size]; exact (Array.getElem?_eq_some_iff.1 ho).1
      have hhead : HeadInv .any t.toArray h s := ⟨inv.size, inv.closed, htl⟩
      have hih : i < h := by
        refine Nat.lt_of_not_le fun hle => ?_
        have hlt' : h < t.toArray.size := by have := inv.size; omega
        exact tail_waits (hs hlt').1 (hs hlt').2 hlt' hhead _ k0 rfl hk0 hk0s i hle hi
      have hcnt : ((s.setIfInBounds i true).toList.take h).count false = f := by
        have h1 : s[i] = false := by simpa [hlt] using hun
        rw [Array.toList_setIfInBounds, List.take_set, List.count_set (by simp; omega)]
        simp [h1, hf]
      obtain ⟨p, hp, hb⟩ := okB_at hB ho
      have hob1 := obsJ_at hob (i := i) (by rw [List.getElem?_take_of_lt hih]; simpa using ho) hp
      rw [Nat.zero_add] at hob1
      exact hWo i o p s a w _ inv hi ho hb hob1 fun v w' h1 h2 => ih _ _ _ hcnt (inv.step L hn hi ho hb h1 h2) fun j hj hj' => by
        rw [getD_set_ne true (by omega)]; exact htl j hj hj'
theorem invJ_end {t : List Oper} {h : Nat} {es : List (Nat × Nat)} {G : Act → Prop} (hE : allB t h es = true) {s : Array Bool} {a : Act} {w : World} (inv : InvJ t.toArray S sp T a0 s a w) (hall : ∀ i, i < h → s.getD i false = true) (htl : ∀ j, h ≤ j → j < t.toArray.size → s.getD j true = false)
    (hQ : Pre T a w es (G (puts a es a0))) : G a := by
  simp only [allB, Bool.and_eq_true] at hE
  have h1 := hQ.out fun x hx => by
    have h5 := List.all_eq_true.1 hE.1 x hx
    simp only [Bool.and_eq_true, decide_eq_true_eq] at h5
    obtain ⟨o, ho, hd⟩ := dstB_spec h5.2
    exact inv.vals x.1 o x.2 ho (hall _ h5.1) hd
  rw [puts_eq inv.tmps.symm inv.defers.symm fun k => ?_] at h1
  · exact h1
  · by_cases e : k ∈ es.map (·.2)
    · exact .inr e
    · refine .inl (inv.old k fun j o hj hl hd => ?_).symm
      have hjh : j < h := Nat.lt_of_not_le fun hle => by
        rw [getD_both (htl j hle (Array.getElem?_eq_some_iff.1 hj).1)] at hl; cases hl
      have h5 := List.all_eq_true.1 hE.2 j (List.mem_range.2 hjh)
      simp only [hj, hd] at h5
      rw [List.any_eq_true] at h5
      obtain ⟨x, hx, hk⟩ := h5
      exact e (List.mem_map.2 ⟨x, hx, by simpa using hk⟩)
/-- The first h operations may come in whatever order; the rest, if there is one, comes behind them, one behind the other. -/
def tailJ (t : List Oper) (h : Nat) : Bool := decide (h ≤ t.toArray.size) && (decide (t.toArray.size ≤ h) || (Region.sinkB .any t.toArray h && Region.chainB .any t.toArray h)) && Region.seqB .any t.toArray (t.drop h).length h (headS t.toArray.size h)
theorem inv0 {t : List Oper} {w0 : World} (h0 : S { w0 with drawn := w0.drawn + 1 }) (hf : ∀ x ∈ sp, x.fact { w0 with drawn := w0.drawn + 1 }) : InvJ t.toArray S sp T a0 (Array.replicate t.toArray.size false) a0 { w0 with drawn := w0.drawn + 1 } :=
  ⟨by simp, fun j oj _ hl => (by rw [getD_replicate_false] at hl; cases hl), h0, fun x hx _ => hf x hx, rfl, rfl, fun _ _ => rfl, fun j o d _ hl => (by rw [getD_replicate_false] at hl; cases hl)⟩
/-- **Each of the first h operations once, whatever order comes; then the rest.** -/
theorem regionJ {w0 : World} {id : Nat} {Q : Exit → Act → World → Prop} {t : List Oper} (S : World → Prop) (sp : List Sp) (Ts : List (Value → World → Prop)) (n h : Nat) (plan : List Plan) (es : List (Nat × Nat)) (hm : P.follows .mixedOrders = true) (hn : a0.tmps.size = n) (hB : okB t.toArray n plan = true) (hT : tailJ t h = true) (hE : allB t h es = true)
    (L : Laws t.toArray S sp (tys Ts)) (h0 : S { w0 with drawn := w0.drawn + 1 }) (hf : ∀ x ∈ sp, x.fact { w0 with drawn := w0.drawn + 1 })
    (hob : ObsJ P S sp (tys Ts) a0 0 (t.take h) plan) (hQ : ∀ a w, S w → Pre (tys Ts) a w es (wpList P t.toArray Q (t.drop h) (puts a es a0) w)) : (Code.region id t.toArray true).wp P Q a0 w0 := by
  simp only [tailJ, Bool.and_eq_true, Bool.or_eq_true, decide_eq_true_eq] at hT
  obtain ⟨⟨h1, h2⟩, h4⟩ := hT
  have h1' : h ≤ t.length := by simpa using h1
  have hsz : h + (t.drop h).length = t.toArray.size := by simp; omega
  have key := any_tailJ (P := P) (S := S) (sp := sp) (T := tys Ts) (a0 := a0) (Wn := fun f s a w => wpAny P .any t.toArray Q f s a w) (Wo := fun i K a w => wpOp P t.toArray Q i K a w) (Wl := fun a w => wpList P t.toArray Q (t.drop h) a w) L
    (fun f s a w hne hall => ⟨fun hr => absurd hr hne, hall⟩) (fun i o p s a w K inv hi ho hb hob hK => op_ofJ L inv hi ho hb hob hK)
    (fun s a w hB hl => wpAny_of_seq (t.drop h) h s a w (fun j => by simp [List.getElem?_drop]) hB hl) hB hn h1 (fun hlt => h2.resolve_left (by omega)) h4 hob
    (fun s a w inv hall htl => invJ_end (G := fun a => wpList P t.toArray Q (t.drop h) a w) hE inv hall htl (hQ a w inv.st)) h (Array.replicate t.toArray.size false) a0 { w0 with drawn := w0.drawn + 1 } (by simp; omega) (inv0 h0 hf) (fun j _ hj => getD_in (by simpa using hj) (getD_replicate_false _ _))
  rw [hsz] at key
  exact wp_region_any hm key
/-- The same inside a round. -/
theorem regionJI {w0 : World} {id : Nat} {Q : Exit → Act → World → Prop} {t : List Oper} (S : World → Prop) (sp : List Sp) (Ts : List (Value → World → Prop)) (n h : Nat) (plan : List Plan) (es : List (Nat × Nat)) (hm : P.follows .mixedOrders = true) (hn : a0.tmps.size = n) (hB : okB t.toArray n plan = true) (hT : tailJ t h = true) (hE : allB t h es = true)
    (hd : Gq.noDefer t = true) (L : Laws t.toArray S sp (tys Ts)) (h0 : S { w0 with drawn := w0.drawn + 1 }) (hf : ∀ x ∈ sp, x.fact { w0 with drawn := w0.drawn + 1 })
    (hob : ObsJ P S sp (tys Ts) a0 0 (t.take h) plan) (hQ : ∀ a w, S w → Pre (tys Ts) a w es (wpListIn (Fence.wide.inRound l) m P t.toArray Q (t.drop h) (puts a es a0) w)) : (Code.region id t.toArray true).wpIn (Fence.wide.inRound l) m P Q a0 w0 := by
  simp only [tailJ, Bool.and_eq_true, Bool.or_eq_true, decide_eq_true_eq] at hT
  obtain ⟨⟨h1, h2⟩, h4⟩ := hT
  have h1' : h ≤ t.length := by simpa using h1
  have hsz : h + (t.drop h).length = t.toArray.size := by simp; omega
  have key := any_tailJ (P := P) (S := S) (sp := sp) (T := tys Ts) (a0 := a0) (Wn := fun f s a w => wpAnyIn (Fence.wide.inRound l) m P .any t.toArray Q f s a w) (Wo := fun i K a w => wpOpIn (Fence.wide.inRound l) m P t.toArray Q i K a w) (Wl := fun a w => wpListIn (Fence.wide.inRound l) m P t.toArray Q (t.drop h) a w) L
    (fun f s a w hne hall => ⟨fun hr => absurd hr hne, hall⟩) (fun i o p s a w K inv hi ho hb hob hK => op_inJ L (Gq.noDefer_spec hd i o ho) inv hi ho hb hob hK)
    (fun s a w hB hl => Gq.anyIn_of_seq (t.drop h) h s a w (fun j => by simp [List.getElem?_drop]) hB hl) hB hn h1 (fun hlt => h2.resolve_left (by omega)) h4 hob
    (fun s a w inv hall htl => invJ_end (G := fun a => wpListIn (Fence.wide.inRound l) m P t.toArray Q (t.drop h) a w) hE inv hall htl (hQ a w inv.st)) h (Array.replicate t.toArray.size false) a0 { w0 with drawn := w0.drawn + 1 } (by simp; omega) (inv0 h0 hf) (fun j _ hj => getD_in (by simpa using hj) (getD_replicate_false _ _))
  rw [hsz] at key
  exact wpIn_region_any hm key
/-- What growth bears another relation bears, too. -/
def MonosBy (r : World → World → Prop) : List (Value → World → Prop) → Prop
  | [] => True
  | V :: t => (∀ v w w', V v w → r w w' → V v w') ∧ MonosBy r t
theorem monosBy_at {r : World → World → Prop} : ∀ {Ts : List (Value → World → Prop)}, MonosBy r Ts → ∀ i v w w', tys Ts i v w → r w w' → tys Ts i v w'
  | [], _, _, _, _, _, _, _ => trivial
  | _ :: _, h, 0, v, w, w', hv, hg => h.1 v w w' hv hg
  | _ :: _, h, i + 1, v, w, w', hv, hg => monosBy_at h.2 i v w w' hv hg
/-- Nothing is turned. -/
theorem Laws.grow {Ts : List (Value → World → Prop)} (hS : ∀ w w', S w → Gr w w' → S w') (hm : Monos Ts) : Laws ops S [] (tys Ts) :=
  ⟨fun _ h => (by cases h), hS, fun _ h => (by cases h), fun _ h => (by cases h), fun _ h => (by cases h), monos_at hm, fun _ h => (by cases h)⟩
/-- One operation turns something; of those values that do not come behind it each bears it. -/
theorem Laws.one {Ts : List (Value → World → Prop)} {x : Sp} (hr : ∀ w, x.rel w w) (hS : ∀ w w', S w → Gr w w' → S w') (hS' : ∀ w w', S w → x.rel w w' → S w') (hF : ∀ w w', x.fact w → Gr w w' → x.fact w') (hm : Monos Ts)
    (hx : ∀ j, j ≠ x.ix → (∀ o, ops[j]? = some o → preds o x.ix = false) → ∀ v w w', tys Ts j v w → x.rel w w' → tys Ts j v w') : Laws ops S [x] (tys Ts) :=
  ⟨fun y h => (by rw [List.mem_singleton.1 h]; exact hr), hS, fun y h => (by rw [List.mem_singleton.1 h]; exact hS'), fun y h => (by rw [List.mem_singleton.1 h]; exact hF),
   fun y h z k hne => (by rw [List.mem_singleton.1 h, List.mem_singleton.1 k] at hne; exact absurd rfl hne), monos_at hm, fun y h j o ho hj hp => by
    rw [List.mem_singleton.1 h] at hj hp ⊢
    exact hx j hj fun o' ho' => by rw [ho] at ho'; injection ho' with ho'; rw [← ho']; exact hp⟩
end
section
variable {P : Program} {w : World} {V : Value → World → Prop} {ρ : Operand → Value} {o : Oper} {R : World → World → Prop}
theorem ok_runR {v : Value} {w' : World} (h : (execOp ρ o).run P w = .ok (.value v) w') (hg : R w w') (hv : V v w') : StepOK P R V w ((execOp ρ o).run P w) := by
  rw [h]; exact ⟨hg, hv⟩
end
end Gt
end
section
/- deal: holders, and hand: a polynomial's value at each holder's point is put behind that holder's share. -/
namespace Go.Proofs.Ytaknffdokkfmgaa
open Go.RowKit Go.Shelf Gw Pol
attribute [local go_sem] Oper.semAt_some

theorem dholders_mk (n : Nat) (w : World) :
    Calls Try.prog 63 #[.int .i64 (n : Int)] w fun e w' =>
      e = .returned (.func (.func 71) #[] #[.pointer (some ⟨w.heap.size, 0, none⟩)]) ∧ w' = w.alloc (.cells #[.int .i64 (n : Int)] 3) := by
  go_enter Try.func63, Try.ntmps63
  go_wp2
  go_ret
  exact ⟨rfl, rfl⟩
/-- A holder and its point. -/
abbrev hencs (i : Nat) : Array Value := #[.int .i64 (i : Int), .int .u8 ((i + 1 : Nat) : Int)]
def HoRel (J : List Nat → World → Prop) (n : Nat) (i : Value) (wr : World) : Prop := ∃ q : Nat, q ≤ n ∧ i = .int .i64 (q : Int) ∧ J (List.range q) wr
set_option maxRecDepth 100000 in
set_option maxHeartbeats 1000000 in
theorem dholders_pre (m : Nat) (hm : 1 ≤ m) (bn n : Nat) (hn : n ≤ 254) (w : World) (h1 : w.cell? ⟨bn, 0, none⟩ = some (.int .i64 (n : Int))) :
    Gq.SeqPre m Try.prog 71 #[.pointer (some ⟨bn, 0, none⟩)] hencs (fun pre x _ => pre = List.range x ∧ x < n) (fun _ _ => True) (fun xs => xs = List.range n) w := fun l J W hW hJ hY h0 => by
  have c1 := (hW.cell (p := ⟨bn, 0, none⟩) (cell_lt h1)).trans h1
  refine callsIn_of_wp Try.func71 rfl trivial ?_ rfl
  simp only [Try.ntmps71, List.size_toArray, List.length_cons, List.length_nil, Nat.reduceAdd, Nat.reduceSub, Array.replicate_succ, Array.replicate_zero, List.push_toArray, List.append_toArray, List.nil_append, List.cons_append]
  gi_wp2
  gi_loopw [5] (HoRel J n) (fun i _ => n - (intOf i).toNat)
  case atStart => exact ⟨0, Nat.zero_le _, rfl, h0⟩
  case round =>
    obtain ⟨q, hq, rfl, hJs⟩ := hrel
    by_cases hlt : q < n
    · obtain ⟨fn, tmps, assign, body, hy, hRd⟩ := hY (List.range q) q wr hJs ⟨rfl, hlt⟩
      dsimp only [hencs] at hy
      obtain ⟨x, hx⟩ : ∃ x, x = q + 1 := ⟨_, rfl⟩
      rw [← hx] at hy
      have HP := Lib.hid (dpoint_nat q x (by omega) hx wr)
      clear hx
      gi_wp2_with fail
      refine ⟨trivial, ?_⟩
      refine (callsIn_wide.2 HP.out).mono ?_
      rintro e _ ⟨rfl, rfl⟩
      gi_wp2_with fail
      refine hRd.mono ?_
      rintro e W3 ⟨rfl, hJ3, _⟩
      gi_wp2
      go_roundw
      case rel => exact ⟨q + 1, by omega, by go_num, by rw [List.range_succ]; exact hJ3⟩
      case measure => simp [intOf]; omega
    · obtain rfl : q = n := by omega
      gi_wp2
      go_end0
      exact ⟨⟨_, rfl⟩, _, rfl, hJs⟩

/-- The shares when k holders have got theirs. -/
def hdP (l : Nat → List Nat) (q : List Nat) (k i : Nat) : List Nat := if i < k then l i ++ [ev (i + 1) q] else l i
theorem hdP_zero (l : Nat → List Nat) (q : List Nat) (i : Nat) : l i = hdP l q 0 i := by simp [hdP]
theorem hdP_at (l : Nat → List Nat) (q : List Nat) (k : Nat) : hdP l q k k = l k := by simp [hdP]
theorem hdP_step {l : Nat → List Nat} {q : List Nat} {k : Nat} {y : Nat} (hy : y = ev (k + 1) q) (i : Nat) : upd (hdP l q k) k (l k ++ [y]) i = hdP l q (k + 1) i := by
  subst hy
  unfold hdP upd
  by_cases e : i = k
  · subst e; simp
  · by_cases e2 : i < k
    · simp [e, e2, show i < k + 1 by omega]
    · simp [e, e2, show ¬ i < k + 1 by omega]

/-- A slice of one byte in a new block. -/
def OneIs (B y : Nat) : Value → World → Prop := fun v w => ∃ b, v = .slice (some ⟨b, 0, none⟩) 1 1 ∧ B ≤ b ∧ (World.cell? w ⟨b, 0, none⟩) = some (.int .u8 (y : Int))
theorem OneIs.mono (B y : Nat) : Gt.Mono (OneIs B y) := by
  rintro v w w' ⟨b, h1, h2, h3⟩ hg
  exact ⟨b, h1, h2, (Below.cell hg (p := ⟨b, 0, none⟩) (cell_lt h3)).trans h3⟩
theorem OneIs.by {B y : Nat} {v : Value} {w w' : World} {row : Option Nat} (h : OneIs B y v w) (hg : w.grownBy w' row) (hr : ∀ k, row = some k → k < B) : OneIs B y v w' := by
  obtain ⟨b, h1, h2, h3⟩ := h
  exact ⟨b, h1, h2, (World.cell?_of_block (w := w) (a := ⟨b, 0, none⟩) (hg.block b (cell_lt h3) (fun e => by have := hr b e.symm; omega))).trans h3⟩
theorem OneIs.sl {B y : Nat} {v : Value} {w : World} (h : OneIs B y v w) (hy : y < 256) : ∃ b, v = .slice (some ⟨b, 0, none⟩) 1 1 ∧ Sl w w.heap.size (some ⟨b, 0, none⟩) [y] := by
  obtain ⟨b, h1, h2, h3⟩ := h
  refine ⟨b, h1, fun i x hx => ?_⟩
  match i, hx with
  | 0, hx => simp at hx; subst hx; exact ⟨hy, b, 0, rfl, cell_lt h3, h3⟩
/-- What was appended: the row, and where it lies. -/
def ApIs (base B n : Nat) (A : Option Addr) (l : List Nat) : Value → World → Prop := fun v w => ∃ A2 c2, v = .slice A2 n c2 ∧ Gw.Own w base 5 A2 c2 l ∧ ∀ b o, A2 = some ⟨b, o, none⟩ → B ≤ b ∨ ∃ o', A = some ⟨b, o', none⟩
theorem ApIs.mono (base B n : Nat) (A : Option Addr) (l : List Nat) : Gt.Mono (ApIs base B n A l) := by
  rintro v w w' ⟨A2, c2, h1, h2, h3⟩ hg
  exact ⟨A2, c2, h1, h2.kept hg, h3⟩

/-- Between two rounds. -/
def HdI (w : World) (bf base g R cR : Nat) (pa : Nat → Option Addr) (l : Nat → List Nat) (Aq : Option Addr) (nq cq : Nat) (q : List Nat) (pre : List Nat) (W : World) : Prop :=
  ∃ (pb : Nat → Option Addr) (cb : Nat → Nat), (W.cell? ⟨w.heap.size, 0, none⟩ = some (.pointer (some ⟨bf, 0, none⟩)) ∧ W.cell? ⟨w.heap.size + 1, 0, none⟩ = some (.slice (some ⟨g, 0, none⟩) R cR) ∧ W.cell? ⟨w.heap.size + 2, 0, none⟩ = some (.slice Aq nq cq) ∧
    Otb W base 5 g R pb cb (hdP l q pre.length)) ∧ Tbr g R pa pb w W ∧ w.heap.size + 4 ≤ W.heap.size ∧ (NT g R pb w.heap.size ∧ NT g R pb (w.heap.size + 1) ∧ NT g R pb (w.heap.size + 2))
theorem HdI.own (w : World) (bf base g R cR : Nat) (pa : Nat → Option Addr) (l : Nat → List Nat) (Aq : Option Addr) (nq cq : Nat) (q : List Nat) (B : Nat) (hB : w.heap.size ≤ B) : OwnFrom B (HdI w bf base g R cR pa l Aq nq cq q) := by
  rintro pre A C row ⟨pb, cb, ⟨h1, h2, h3, h4⟩, h5, h6, h7⟩ hg hr
  have hr' : ∀ r, row = some r → ∃ o : Obj, A.heap[r]? = some o ∧ o.isCells = false := fun r e => (hr r e).2
  exact ⟨pb, cb, ⟨cell_kept h1 hg hr', cell_kept h2 hg hr', cell_kept h3 hg hr', h4.turned hg hr'⟩, h5.turned hg (fun r e => Nat.le_trans hB (hr r e).1), Nat.le_trans h6 hg.size, h7⟩
/-- hand's boxes. -/
structure Hbx (w : World) (v0 v1 v2 v3 : Value) (W : World) : Prop where
  c0 : W.cell? ⟨w.heap.size, 0, none⟩ = some v0
  c1 : W.cell? ⟨w.heap.size + 1, 0, none⟩ = some v1
  c2 : W.cell? ⟨w.heap.size + 2, 0, none⟩ = some v2
  c3 : W.cell? ⟨w.heap.size + 3, 0, none⟩ = some v3
  sz : W.heap.size = w.heap.size + 4
  bl : Below w.heap.size w W
theorem hbx (w : World) (v0 v1 v2 v3 : Value) (t0 t1 t2 t3 : TypeId) :
    Hbx w v0 v1 v2 v3 ((((w.alloc (.cells #[v0] t0)).alloc (.cells #[v1] t1)).alloc (.cells #[v2] t2)).alloc (.cells #[v3] t3)) := by
  refine ⟨?_, ?_, ?_, ?_, by simp, ?_⟩
  · exact old_cell (old_cell (old_cell (new_cell w v0 t0 _ rfl) _) _) _
  · exact old_cell (old_cell (new_cell _ v1 t1 _ (by simp)) _) _
  · exact old_cell (new_cell _ v2 t2 _ (by simp)) _
  · exact new_cell _ v3 t3 _ (by simp)
  · exact ((((Below.refl _ w).alloc (Nat.le_refl _) _).alloc (by simp) _).alloc (by simp; omega) _).alloc (by simp; omega) _

set_option maxRecDepth 100000 in
set_option maxHeartbeats 1000000 in
theorem dhand_in (bf base g R cR : Nat) (pa : Nat → Option Addr) (cp : Nat → Nat) (l : Nat → List Nat) (Aq : Option Addr) (nq cq : Nat) (q : List Nat) (w : World) (hF : IsField w bf) (hFn : NT g R pa bf) (hO : Otb w base 5 g R pa cp l) (hR : R ≤ 254)
    (hnq : nq = q.length) (hq : In w w.heap.size Aq cq q) (hqn : AT g R pa Aq) (hql : q.length ≤ 4096) (hll : ∀ i, i < R → (l i).length ≤ 1048576) :
    CallsIn Fence.wide 6 Try.prog 43 #[.pointer (some ⟨bf, 0, none⟩), .slice (some ⟨g, 0, none⟩) R cR, .slice Aq nq cq] w fun e w' => (∃ v, e = .returned v) ∧ ∃ pb cb, Otb w' base 5 g R pb cb (fun i => l i ++ [ev (i + 1) q]) ∧ Tbr g R pa pb w w' := by
  obtain ⟨i0, hi0, hz0, hz1, hz2⟩ := info_parts pbyte_info
  have HNQ := Lib.hid hnq
  clear hnq
  refine callsIn_of_wp_marks Try.func43 rfl trivial ?_ rfl
  simp only [Try.ntmps43, List.size_toArray, List.length_cons, List.length_nil, Nat.reduceAdd, Nat.reduceSub, Array.replicate_succ, Array.replicate_zero, List.push_toArray, List.append_toArray, List.nil_append, List.cons_append]
  gi_wp2_with fail
  refine ⟨trivial, ?_⟩
  refine (callsIn_wide.2 (dholders_mk R _)).mono ?_
  rintro e w' ⟨rfl, rfl⟩
  gi_wp2
  have h4 := hbx w (.pointer (some ⟨bf, 0, none⟩)) (.slice (some ⟨g, 0, none⟩) R cR) (.slice Aq nq cq) (.int .i64 (R : Int)) 38 35 28 3
  have hsz := h4.sz
  refine Gq.range_pre (by omega) (gf := 71) (lb := #[.pointer (some ⟨w.heap.size + 3, 0, none⟩)]) rfl (enters_of Try.func71 (by kernel_rfl) rfl)
    (dholders_pre (6 - 1) (by omega) (w.heap.size + 3) R hR _ h4.c3)
    (fun _ _ => trivial) (fun _ _ _ _ _ _ _ => trivial) (fun _ => rfl) (fun _ _ _ _ _ hs _ _ => hs)
    (HdI w bf base g R cR pa l Aq nq cq q) (HdI.own w bf base g R cR pa l Aq nq cq q _ (by omega))
    ⟨pa, cp, ⟨h4.c0, h4.c1, h4.c2, (hO.below h4.bl).congr (fun i _ => hdP_zero l q i)⟩, Tbr.grow h4.bl, by omega, hO.ntNew (Nat.le_refl _), hO.ntNew (by omega), hO.ntNew (by omega)⟩
    (fun i => { tmps := #[.pointer (some ⟨bf, 0, none⟩), .slice (some ⟨g, 0, none⟩) R cR, .slice Aq nq cq, .pointer (some ⟨w.heap.size, 0, none⟩), .pointer (some ⟨w.heap.size + 1, 0, none⟩), .pointer (some ⟨w.heap.size + 2, 0, none⟩), .int .i64 (i : Int), .int .u8 ((i + 1 : Nat) : Int), .slice (some ⟨g, 0, none⟩) R cR, .int .i64 (R : Int), .func (.func 71) #[] #[.pointer (some ⟨w.heap.size + 3, 0, none⟩)], .int .i64 (i : Int), .int .u8 ((i + 1 : Nat) : Int), undef, undef, undef, undef, undef, undef, undef, undef, undef, undef, undef, undef, undef], defers := [] }) ?assign ?body ?done
  case assign =>
    intro l x W K hK
    gi_wp2
    exact hK
  case body =>
    rintro lb pre h W ⟨pb, cb, ⟨d0, d1, d2, hOW⟩, hT, hWs, n0, n1, n2⟩ ⟨rfl, hh⟩
    rw [List.length_range] at hOW
    clear h4 hsz
    obtain ⟨x, hx⟩ : ∃ x, x = h + 1 := ⟨_, rfl⟩
    rw [← hx]
    have hxb : x < 256 := by omega
    obtain ⟨y, hy⟩ : ∃ y, y = ev x q := ⟨_, rfl⟩
    have hyb : y < 256 := by rw [hy]; exact ev_lt hq.bb _
    obtain ⟨nl, hnl⟩ : ∃ nl, nl = (l h).length := ⟨_, rfl⟩
    have hlb := hll h hh
    have hg0 : W.cell? ⟨g, h, none⟩ = some (.slice (pb h) (hdP l q h h).length (cb h)) := (hOW.out h hh).1
    rw [hdP_at, ← hnl] at hg0
    have hrow := hOW.row h hh
    rw [hdP_at] at hrow
    have hgl := hOW.glo
    have hbW : base ≤ W.heap.size := by omega
    have HY := Lib.hid hy
    have HX := Lib.hid hx
    have HNL := Lib.hid hnl
    have HROW := Lib.hid hrow
    have HOW := Lib.hid hOW
    have HT := Lib.hid hT
    obtain ⟨rb, hrb⟩ : ∃ rb, rb = (Value.slice (pb h) nl (cb h)).ownBlock := ⟨_, rfl⟩
    have HRL := Lib.hid (show ∀ k, rb = some k → k < W.heap.size from fun k e => by
      have h1 := HROW.out.at0 (n := nl) (b := k) (by rw [← e, hrb])
      have h2 := HROW.out
      rw [h1] at h2
      exact h2.lt.2)
    have HS5 := Lib.hid (show ∀ w5, W.grownBy w5 rb → Tbr g R pb pb W w5 from fun w5 h5 => hOW.gbr hh (hrb ▸ h5))
    have HK5 := Lib.hid (show ∀ w5, W.grownBy w5 rb → w5.cell? ⟨g, h, none⟩ = some (.slice (pb h) nl (cb h)) from fun w5 h5 => by
      refine (World.cell?_of_block (w := W) (a := ⟨g, h, none⟩) (h5.block g hgl.2 fun e => ?_)).trans hg0
      have h1 := HROW.out.at0 (n := nl) (b := g) (by rw [e, hrb])
      exact hOW.ne h hh 0 h1)
    have hhi : (h : Int) < (R : Int) := by omega
    clear hOW hrow hy hx hnl hT hg0
    gi_wp2
    refine Gt.regionJI (fun w5 => W.grownBy w5 rb) [⟨11, fun w5 w6 => w5.grownBy w6 rb, fun w5 => Gw.Own w5 base 5 (pb h) (cb h) (l h)⟩] [Gt.Is (.slice (some ⟨g, 0, none⟩) R cR), Gt.Is (.int .i64 (h : Int)), Gt.Is (.slice (some ⟨g, 0, none⟩) R cR), Gt.Is (.int .i64 (h : Int)), Gt.Is (.pointer (some ⟨g, h, none⟩)), Gt.Is (.slice (pb h) nl (cb h)), Gt.Is (.pointer (some ⟨bf, 0, none⟩)), Gt.Is (.slice Aq nq cq), Gt.Is (.int .u8 (x : Int)), Gt.Is (.int .u8 (y : Int)), OneIs W.heap.size y, ApIs base W.heap.size (nl + 1) (pb h) (l h ++ [y]), Gt.Is (.pointer (some ⟨g, h, none⟩))] 26 13
      [⟨[], [4], none⟩, ⟨[], [6], none⟩, ⟨[], [4], none⟩, ⟨[], [6], none⟩, ⟨[(2, 15), (3, 16)], [], none⟩, ⟨[(4, 17)], [], none⟩, ⟨[], [3], none⟩, ⟨[], [5], none⟩, ⟨[], [7], none⟩, ⟨[(6, 19), (7, 20), (8, 21)], [], none⟩, ⟨[(9, 22)], [], none⟩, ⟨[(5, 18), (10, 23)], [], none⟩, ⟨[(0, 13), (1, 14)], [], none⟩, ⟨[(12, 25), (11, 24)], [], none⟩]
      [(0, 13), (1, 14), (2, 15), (3, 16), (4, 17), (5, 18), (6, 19), (7, 20), (8, 21), (9, 22), (10, 23), (11, 24), (12, 25)] (by kernel_rfl) (by kernel_rfl) (by kernel_rfl) (by kernel_rfl) (by kernel_rfl) (by kernel_rfl) ?_ ?_ ?_ ?_ ?_
    · refine Gt.Laws.one (fun w5 => World.grownBy.refl w5 _) (fun w5 w6 h5 h6 => gb_trans h5 (gb_grow h6)) (fun w5 w6 h5 h6 => gb_trans h5 h6) (fun w5 w6 h5 h6 => h5.kept h6) ?_ ?_
      · simp only [Gt.Monos]
        repeat' apply And.intro
        all_goals (first | exact trivial | exact Gt.Is.mono _ | exact OneIs.mono _ _ | exact ApIs.mono _ _ _ _ _)
      · intro j hj _ v w5 w6 h5 h6
        match j, hj, h5 with
        | 0, _, h5 | 1, _, h5 | 2, _, h5 | 3, _, h5 | 4, _, h5 | 5, _, h5 | 6, _, h5 | 7, _, h5 | 8, _, h5 | 9, _, h5 | 12, _, h5 => exact h5
        | 10, _, h5 => exact OneIs.by h5 h6 HRL.out
        | 11, hj, _ => exact absurd rfl hj
        | j + 13, _, _ => trivial
    · exact ⟨rfl, rfl, rfl, Nat.le_refl _, fun _ _ _ => rfl⟩
    · intro x5 hx5
      rw [List.mem_singleton.1 hx5]
      exact HROW.out.drewN 1
    · simp only [List.take_succ_cons, List.take_zero, Gt.ObsJ]
      repeat' apply And.intro
      all_goals try exact trivial
      all_goals (
        intro a w5 hS hF5
        have hS' : W.grownBy w5 rb := hS
        have hT5 := HS5.out w5 hS'
        have k0 := hT5.cell d0 n0
        have k1 := hT5.cell d1 n1
        have k2 := hT5.cell d2 n2
        have k5 := HK5.out w5 hS'
        simp only [Gt.Pre, Gt.Kept, Gt.Guarded, Gt.tys, List.getD_cons_zero, List.getD_cons_succ, Gt.Is, Nat.zero_add, Nat.reduceAdd]
        intros)
      all_goals (first
        | exact Gt.ok_move rfl (by assumption)
        | (refine Gt.ok_call (f := 60) rfl #[.pointer (some ⟨bf, 0, none⟩), .slice Aq nq cq, .int .u8 (x : Int)] (by kernel_rfl) (by simp [*] <;> rfl) ((peval' bf Aq cq nq q x HNQ.out hxb w5 (hF.tbr (HT.out.trans hT5) hFn) ((HT.out.trans hT5).inn hq hqn) (by omega)).mono ?_)
           rintro e w6 ⟨rfl, hb6⟩
           exact ⟨_, rfl, hb6, by show Value.int .u8 (ev x q : Int) = Value.int .u8 (y : Int); rw [← HY.out]⟩)
        | (obtain ⟨b, hv10, hsl⟩ := OneIs.sl (B := W.heap.size) (y := y) (v := a.eval (.tmp 23)) (w := w5) (by assumption) hyb
           obtain ⟨A2, c2, w6, hrun, hown, hgr, hloc⟩ := run_app_at (P := Try.prog) (w := w5) 28 28 base 5 i0 _ Try.underlying28 hi0 hz0 hz1 hz2 rfl (pb h) nl (cb h) (l h) HNL.out hF5 w5.heap.size ⟨b, 0, none⟩ 1 1 [y] rfl hsl (by simp; omega) (Nat.le_trans hbW hS'.size)
           refine Gt.ok_runR (v := .slice A2 (nl + 1) c2) (w' := w6) ?_ (hrb ▸ hgr) ⟨A2, c2, rfl, hown, fun b' o e => ?_⟩
           · have hl2 : (l h ++ [y]).length = nl + 1 := by rw [List.length_append, ← HNL.out]; rfl
             rw [hl2] at hrun
             simp only [execOp, resolve, invoke, builtin, Sem.run_bind, Sem.run_pure, Result.andThen_ok, List.map_toArray, List.map_cons, List.map_nil, *]
           · rcases hloc b' o e with h1 | h1
             · exact .inl (Nat.le_trans hS'.size h1)
             · exact .inr h1)
        | (refine Gt.ok_runW (v := .slice (some ⟨w5.heap.size, 0, none⟩) 1 1) (w' := w5.alloc (.cells #[.int .u8 (y : Int)] 5)) ?_ ((Below.refl _ _).alloc (Nat.le_refl _) _) ⟨_, rfl, hS'.size, cell_new _ _ _⟩
           simp only [execOp, List.map_toArray, List.map_cons, List.map_nil, *]
           go_simp
           done)
        | (refine Gt.ok_run ?_ rfl
           simp only [execOp, *]
           go_simp
           done))
    · intro a w5 hS
      have hS' : W.grownBy w5 rb := hS
      simp only [Gt.Pre, Gt.tys, List.getD_cons_zero, List.getD_cons_succ, Gt.Is]
      intro h0 h1 h2 h3 h4 h5 h6 h7 h8 h9 h10 h11 h12
      obtain ⟨b10, h10, _, _⟩ := h10
      obtain ⟨A2, c2, h11, hown, hloc⟩ := h11
      have hl2 : nl + 1 = (l h ++ [y]).length := by rw [List.length_append, ← HNL.out]; rfl
      obtain ⟨k5, f5, hO3, hT3, hK3⟩ := HOW.out.stored hh (n := nl) (hrb ▸ hS') hown hloc (nl + 1) hl2
      rw [hdP_at, ← HNL.out] at k5
      have HFIN := Lib.hid (show KeepsOthers W (w5.setCell ⟨g, h, none⟩ (.slice A2 (nl + 1) c2)) ∧ True ∧ HdI w bf base g R cR pa l Aq nq cq q (List.range h ++ [h]) (w5.setCell ⟨g, h, none⟩ (.slice A2 (nl + 1) c2)) from by
        refine ⟨hK3, trivial, upd pb h A2, upd cb h c2, ⟨hT3.cell d0 n0, hT3.cell d1 n1, hT3.cell d2 n2, ?_⟩, HT.out.trans hT3, Nat.le_trans hWs hT3.size, hT3.nt (by omega) n0, hT3.nt (by omega) n1, hT3.nt (by omega) n2⟩
        rw [List.length_append, List.length_range]
        exact hO3.congr (fun i _ => hdP_step (by rw [HY.out, HX.out]) i))
      clear hO3 hT3 hK3 hown hloc hl2
      simp only [Gt.puts, List.foldl_cons, List.foldl_nil, h0, h1, h2, h3, h4, h5, h6, h7, h8, h9, h10, h11, h12]
      simp only [Act.put, List.setIfInBounds_toArray, List.set_cons_zero, List.set_cons_succ, List.drop_succ_cons, List.drop_zero]
      gi_wp2
      exact HFIN.out
  case done =>
    rintro D pre W hD hS ⟨pb, cb, ⟨d0, d1, d2, hOW⟩, hT, hWs, n0, n1, n2⟩ hK
    subst hS
    rw [List.length_range] at hOW
    clear h4
    have HFIN := Lib.hid (show ∃ pb' cb', Otb (W.putObj D (.deferred none)) base 5 g R pb' cb' (fun i => l i ++ [ev (i + 1) q]) ∧ Tbr g R pa pb' w (W.putObj D (.deferred none)) from by
      have hg2 := grownBy_putObj' W D (.deferred none)
      refine ⟨pb, cb, (hOW.congr fun i hi => by unfold hdP; rw [if_pos hi]).turned hg2 (fun r e => by cases e; exact ⟨_, hK, rfl⟩), hT.turned hg2 (fun r e => by cases e; omega)⟩)
    gi_wp2
    refine ⟨by simp, .inl ⟨_, _, rfl, run_takeDeferred hK, ?_⟩⟩
    exact ⟨_, results_none rfl _ _ _, ⟨_, rfl⟩, HFIN.out⟩
theorem dhand_any (bf base g R cR : Nat) (pa : Nat → Option Addr) (cp : Nat → Nat) (l : Nat → List Nat) (Aq : Option Addr) (nq cq : Nat) (q : List Nat) (w : World) (hF : IsField w bf) (hFn : NT g R pa bf) (hO : Otb w base 5 g R pa cp l) (hR : R ≤ 254)
    (hnq : nq = q.length) (hq : In w w.heap.size Aq cq q) (hqn : AT g R pa Aq) (hql : q.length ≤ 4096) (hll : ∀ i, i < R → (l i).length ≤ 1048576) :
    Calls Try.prog 43 #[.pointer (some ⟨bf, 0, none⟩), .slice (some ⟨g, 0, none⟩) R cR, .slice Aq nq cq] w fun e w' => (∃ v, e = .returned v) ∧ ∃ pb cb, Otb w' base 5 g R pb cb (fun i => l i ++ [ev (i + 1) q]) ∧ Tbr g R pa pb w w' :=
  callsIn_wide.1 (dhand_in bf base g R cR pa cp l Aq nq cq q w hF hFn hO hR hnq hq hqn hql hll)
end Go.Proofs.Ytaknffdokkfmgaa
end
section
/- A region that leaves its order open, inside a fence and outside a round: as Gtj's. -/
namespace Gt
open Go Go.RowKit
section
variable {P : Program} {ops : Array Oper} {S : World → Prop} {sp : List Sp} {T : Nat → Value → World → Prop} {a0 : Act} {m : Nat}
theorem op_inF {Q : Exit → Act → World → Prop} {K : Act → World → Prop} {n i : Nat} {o : Oper} {p : Plan} {s : Array Bool} {a : Act} {w : World} (L : Laws ops S sp T) (hd : ∀ c, o.op ≠ .defer c) (inv : InvJ ops S sp T a0 s a w) (hi : i ∈ Region.ready .any ops s) (ho : ops[i]? = some o) (hb : opB ops n i o p = true)
    (hob1 : ObJ P S sp T a0 i o p) (hK : ∀ v w', Rf sp i w w' → T i v w' → K (a.put o.dst v) w') : wpOpIn Fence.wide m P ops Q i K a w := by
  have h := asked hb (known inv hi ho hb hob1)
  unfold wpOpIn
  simp only [ho]
  split at h
  · rename_i hw
    rw [if_pos hw]
    refine ⟨fun _ _ => trivial, ?_⟩
    rw [Oper.semAt_plain _ _ _ hd]
    cases hr : (execOp a.eval o).run P w with
    | ok x w' =>
      rw [hr] at h
      cases x with
      | value u => exact hK _ _ h.1 h.2
      | skip => exact hK _ _ h.1 h.2
      | enter g args =>
        refine ⟨fun hx => by simp [Fence.wide] at hx, callsIn_wide.2 (Calls.mono h fun e w'' he => ?_)⟩
        obtain ⟨v, rfl, h1, h2⟩ := he
        exact hK _ _ h1 h2
      | _ => exact h.elim
    | halt x w' => rw [hr] at h; exact h.elim
  · rename_i hw
    rw [if_neg hw]
    exact ⟨fun _ _ => trivial, hK _ _ (L.Rrefl i w) h⟩
theorem regionJF {w0 : World} {id : Nat} {Q : Exit → Act → World → Prop} {t : List Oper} (S : World → Prop) (sp : List Sp) (Ts : List (Value → World → Prop)) (n h : Nat) (plan : List Plan) (es : List (Nat × Nat)) (hm : P.follows .mixedOrders = true) (hn : a0.tmps.size = n) (hB : okB t.toArray n plan = true) (hT : tailJ t h = true) (hE : allB t h es = true)
    (hd : Gq.noDefer t = true) (L : Laws t.toArray S sp (tys Ts)) (h0 : S { w0 with drawn := w0.drawn + 1 }) (hf : ∀ x ∈ sp, x.fact { w0 with drawn := w0.drawn + 1 })
    (hob : ObsJ P S sp (tys Ts) a0 0 (t.take h) plan) (hQ : ∀ a w, S w → Pre (tys Ts) a w es (wpListIn Fence.wide m P t.toArray Q (t.drop h) (puts a es a0) w)) : (Code.region id t.toArray true).wpIn Fence.wide m P Q a0 w0 := by
  simp only [tailJ, Bool.and_eq_true, Bool.or_eq_true, decide_eq_true_eq] at hT
  obtain ⟨⟨h1, h2⟩, h4⟩ := hT
  have h1' : h ≤ t.length := by simpa using h1
  have hsz : h + (t.drop h).length = t.toArray.size := by simp; omega
  have key := any_tailJ (P := P) (S := S) (sp := sp) (T := tys Ts) (a0 := a0) (Wn := fun f s a w => wpAnyIn Fence.wide m P .any t.toArray Q f s a w) (Wo := fun i K a w => wpOpIn Fence.wide m P t.toArray Q i K a w) (Wl := fun a w => wpListIn Fence.wide m P t.toArray Q (t.drop h) a w) L
    (fun f s a w hne hall => ⟨fun hr => absurd hr hne, hall⟩) (fun i o p s a w K inv hi ho hb hob hK => op_inF L (Gq.noDefer_spec hd i o ho) inv hi ho hb hob hK)
    (fun s a w hB hl => Gq.anyIn_of_seq (t.drop h) h s a w (fun j => by simp [List.getElem?_drop]) hB hl) hB hn h1 (fun hlt => h2.resolve_left (by omega)) h4 hob
    (fun s a w inv hall htl => invJ_end (G := fun a => wpListIn Fence.wide m P t.toArray Q (t.drop h) a w) hE inv hall htl (hQ a w inv.st)) h (Array.replicate t.toArray.size false) a0 { w0 with drawn := w0.drawn + 1 } (by simp; omega) (inv0 h0 hf) (fun j _ hj => getD_in (by simpa using hj) (getD_replicate_false _ _))
  rw [hsz] at key
  exact wpIn_region_any hm key
end
end Gt
end
section
/- More predicates that growth bears: a field, rows that are read, what sharing answers. -/
namespace Go.Proofs.Ytaknffdokkfmgaa
open Go.RowKit Go.Shelf Gw Pol
def FIs : Value → World → Prop := fun v w => ∃ b, v = .pointer (some ⟨b, 0, none⟩) ∧ IsField w b
theorem FIs.mono : Gt.Mono FIs := by
  rintro v w w' ⟨b, h1, h2⟩ hg
  exact ⟨b, h1, h2.below hg h2.lt⟩
def MIs (n : Nat) (l : Nat → List Nat) : Value → World → Prop := fun v w => ∃ A c pa cp, v = .slice A n c ∧ MIn w w.heap.size A c n pa cp l
theorem MIs.mono (n : Nat) (l : Nat → List Nat) : Gt.Mono (MIs n l) := by
  rintro v w w' ⟨A, c, pa, cp, h1, h2⟩ hg
  exact ⟨A, c, pa, cp, h1, (h2.below hg).more (Below.size hg)⟩
def TIs (n : Nat) (l : Nat → List Nat) : Value → World → Prop := fun v w => ∃ A c pa cp, v = .tuple #[.slice A n c, .bool true] ∧ MIn w w.heap.size A c n pa cp l
theorem TIs.mono (n : Nat) (l : Nat → List Nat) : Gt.Mono (TIs n l) := by
  rintro v w w' ⟨A, c, pa, cp, h1, h2⟩ hg
  exact ⟨A, c, pa, cp, h1, (h2.below hg).more (Below.size hg)⟩
def ZIs : Value → World → Prop := fun v _ => ∃ A c, v = .tuple #[.slice A 0 c, .bool false]
theorem ZIs.mono : Gt.Mono ZIs := by
  rintro v w w' ⟨A, c, h1⟩ _
  exact ⟨A, c, h1⟩
def EIs : Value → World → Prop := fun v _ => ∃ A c, v = .slice A 0 c
theorem EIs.mono : Gt.Mono EIs := by
  rintro v w w' ⟨A, c, h1⟩ _
  exact ⟨A, c, h1⟩
def LIs (n : Nat) : Value → World → Prop := fun v _ => ∃ A c, v = .slice A n c
theorem LIs.mono (n : Nat) : Gt.Mono (LIs n) := by
  rintro v w w' ⟨A, c, h1⟩ _
  exact ⟨A, c, h1⟩
def SIs (n : Nat) (l : List Nat) : Value → World → Prop := fun v w => ∃ A c, v = .tuple #[.slice A n c, .bool true] ∧ In w w.heap.size A c l
theorem SIs.mono (n : Nat) (l : List Nat) : Gt.Mono (SIs n l) := by
  rintro v w w' ⟨A, c, h1, h2⟩ hg
  exact ⟨A, c, h1, (h2.below hg).more (Below.size hg)⟩
/-- A loop over all holders, in which worlds grow. -/
def LpRel (wL : World) (n : Nat) (i : Value) (wr : World) : Prop := ∃ h : Nat, h ≤ n ∧ i = .int .i64 (h : Int) ∧ Below wL.heap.size wL wr
theorem goodB_mk {n t k e r : Nat} (h1 : 1 ≤ t) (h2 : 1 ≤ k) (h3 : 1 ≤ r) (h4 : r ≤ 512) (h5 : t + k + 2 * e ≤ n) (h6 : n + k ≤ 255) : goodB n t k e r = true := decide_eq_true (by omega)
end Go.Proofs.Ytaknffdokkfmgaa
end
