import Derived.Test.YtaknffdokkfmgaaJ11
import Derived.Test.YtaknffdokkfmgaaJ14
section
/- A region as Gtj's, where of the values of those operations that turn something more is told in pairs: of each two, once both have come. -/
namespace Gt
open Go Go.RowKit
/-- Is there such an operation? -/
def Sn (sp : List Sp) (i : Nat) : Bool := (sp.find? (fun x => x.ix == i)).isSome
section
variable {P : Program} {ops : Array Oper} {S : World → Prop} {sp : List Sp} {T : Nat → Value → World → Prop} {a0 : Act} {J : Nat → Nat → Value → Value → Prop}
/-- What is asked of an operation's value: of one that turns something, also how it stands to those that came before. -/
def Vf (sp : List Sp) (T : Nat → Value → World → Prop) (J : Nat → Nat → Value → Value → Prop) (i : Nat) (w : World) : Value → World → Prop := match Sn sp i with | true => fun v w' => T i v w' ∧ ∀ j u, T j u w → J i j v u ∧ J j i u v | false => T i
theorem Vf.val {i : Nat} {w w' : World} {v : Value} (h : Vf sp T J i w v w') : T i v w' := by
  unfold Vf at h
  cases e : Sn sp i with
  | true => rw [e] at h; exact h.1
  | false => rw [e] at h; exact h
def ObK (P : Program) (S : World → Prop) (sp : List Sp) (T : Nat → Value → World → Prop) (J : Nat → Nat → Value → Value → Prop) (a0 : Act) (i : Nat) (o : Oper) (p : Plan) : Prop :=
  ∀ a w, S w → Ff sp i w → Pre T a w p.ds (Kept a a0 p.ks (Guarded a p.gd (StepOK P (Rf sp i) (Vf sp T J i w) w ((execOp a.eval o).run P w)) (Vf sp T J i w undef w)))
def ObsK (P : Program) (S : World → Prop) (sp : List Sp) (T : Nat → Value → World → Prop) (J : Nat → Nat → Value → Value → Prop) (a0 : Act) : Nat → List Oper → List Plan → Prop
  | i, o :: t, p :: ps => ObK P S sp T J a0 i o p ∧ ObsK P S sp T J a0 (i + 1) t ps
  | _, _, _ => True
structure InvK (ops : Array Oper) (S : World → Prop) (sp : List Sp) (T : Nat → Value → World → Prop) (J : Nat → Nat → Value → Value → Prop) (a0 : Act) (s : Array Bool) (a : Act) (w : World) : Prop where
  i : InvJ ops S sp T a0 s a w
  jt : ∀ i j oi oj di dj, ops[i]? = some oi → ops[j]? = some oj → oi.dst = some di → oj.dst = some dj → s.getD i false = true → s.getD j false = true → i ≠ j → J i j (a.eval (.tmp di)) (a.eval (.tmp dj))
theorem obsK_at {t : List Oper} : ∀ {plan : List Plan} {k : Nat}, ObsK P S sp T J a0 k t plan → ∀ {i : Nat} {o : Oper} {p : Plan}, t[i]? = some o → plan[i]? = some p → ObK P S sp T J a0 (k + i) o p := by
  induction t with
  | nil => intro plan k _ i o p h; simp at h
  | cons x t ih =>
    intro plan k h i o p h1 h2
    cases plan with
    | nil => simp at h2
    | cons q ps =>
      cases i with
      | zero => simp at h1 h2; subst h1 h2; exact h.1
      | succ i =>
        have := ih h.2 (i := i) (by simpa using h1) (by simpa using h2)
        rw [show k + (i + 1) = k + 1 + i from by omega]; exact this
theorem InvK.step {s : Array Bool} {a : Act} {w w' : World} {i : Nat} {o : Oper} {v : Value} {n : Nat} {p : Plan} (inv : InvK ops S sp T J a0 s a w) (L : Laws ops S sp T) (hN : ∀ i, Sn sp i = false → ∀ j v u, J i j v u ∧ J j i u v)
    (hn : a0.tmps.size = n) (hi : i ∈ Region.ready .any ops s) (ho : ops[i]? = some o) (hb : opB ops n i o p = true) (hw : Rf sp i w w') (hv : Vf sp T J i w v w') : InvK ops S sp T J a0 (s.setIfInBounds i true) (a.put o.dst v) w' := by
  refine ⟨inv.i.step L hn hi ho hb hw hv.val, ?_⟩
  obtain ⟨hun, oi, hoi, hall⟩ := mem_ready.1 hi
  have hb0 := hb
  simp only [opB, Bool.and_eq_true] at hb
  obtain ⟨⟨⟨⟨⟨hb1, _⟩, _⟩, _⟩, hb5⟩, _⟩ := hb
  have hset : ∀ j, (s.setIfInBounds i true).getD j false = true → j = i ∨ s.getD j false = true := fun j hj => by
    by_cases e : j = i
    · exact .inl e
    · right; rwa [getD_set_ne false (Ne.symm e)] at hj
  have hnew : ∀ d, o.dst = some d → (a.put o.dst v).eval (.tmp d) = v := fun d hd => by
    rw [hd] at hb1 ⊢
    rw [eval_put_same (by rw [inv.i.tmps, hn]; simpa using hb1)]
  have hold : ∀ j oj d, ops[j]? = some oj → oj.dst = some d → s.getD j false = true → j ≠ i → (a.put o.dst v).eval (.tmp d) = a.eval (.tmp d) := fun j oj d hj hd hl e => by
    have h1 := (List.all_eq_true.1 hb5) j (List.mem_range.2 (Array.getElem?_eq_some_iff.1 hj).1)
    simp only [hj, Bool.or_eq_true, beq_iff_eq, e, false_or] at h1
    have hne : ∀ d', o.dst = some d' → Operand.tmp d ≠ .tmp d' := fun d' hd' hx => by
      injection hx with hx
      rcases h1 with h1 | h1
      · rw [hd'] at h1; cases h1
      · rw [hd', hd, hx] at h1; simp at h1
    rw [Act.eval_put fun d' hd' => hne d' hd']
  have hpair : ∀ j u, T j u w → J i j v u ∧ J j i u v := fun j u hu => by
    unfold Vf at hv
    cases e : Sn sp i with
    | true => rw [e] at hv; exact hv.2 j u hu
    | false => exact hN i e j v u
  intro j k oj ok dj dk hj hk hdj hdk hlj hlk hne
  by_cases ej : j = i
  · subst ej
    rw [ho] at hj; obtain rfl : o = oj := by simpa using hj
    have ek : k ≠ j := fun e => hne e.symm
    have hlk' := (hset k hlk).resolve_left ek
    rw [hnew dj hdj, hold k ok dk hk hdk hlk' ek]
    exact (hpair k _ (inv.i.vals k ok dk hk hlk' hdk)).1
  · have hlj' := (hset j hlj).resolve_left ej
    by_cases ek : k = i
    · subst ek
      rw [ho] at hk; obtain rfl : o = ok := by simpa using hk
      rw [hnew dk hdk, hold j oj dj hj hdj hlj' ej]
      exact (hpair j _ (inv.i.vals j oj dj hj hlj' hdj)).2
    · have hlk' := (hset k hlk).resolve_left ek
      rw [hold j oj dj hj hdj hlj' ej, hold k ok dk hk hdk hlk' ek]
      exact inv.jt j k oj ok dj dk hj hk hdj hdk hlj' hlk' hne
/-- What is known of an operation that comes up. -/
theorem knownK {n i : Nat} {o : Oper} {p : Plan} {s : Array Bool} {a : Act} {w : World} (inv : InvK ops S sp T J a0 s a w) (hi : i ∈ Region.ready .any ops s) (ho : ops[i]? = some o) (hb : opB ops n i o p = true)
    (hob1 : ObK P S sp T J a0 i o p) : Guarded a p.gd (StepOK P (Rf sp i) (Vf sp T J i w) w ((execOp a.eval o).run P w)) (Vf sp T J i w undef w) := by
  obtain ⟨hun, oi, hoi, hall⟩ := mem_ready.1 hi
  rw [ho] at hoi
  obtain rfl : o = oi := by simpa using hoi
  have hff : Ff sp i w := by
    unfold Ff
    cases h : sp.find? (fun x => x.ix == i) with
    | none => trivial
    | some x =>
      have hx : x.ix = i := by simpa using List.find?_some h
      exact inv.i.un x (List.mem_of_find?_eq_some h) (by rw [hx, getD_both hun])
  have hob1 := hob1 a w inv.i.st hff
  simp only [opB, Bool.and_eq_true] at hb
  obtain ⟨⟨⟨⟨⟨_, _⟩, hb3⟩, hb4⟩, _⟩, hb6⟩ := hb
  have hob2 := hob1.out fun x hx => by
    have h1 := List.all_eq_true.1 hb3 x hx
    simp only [Bool.and_eq_true] at h1
    obtain ⟨oj, hoj, hdj⟩ := dstB_spec h1.1
    obtain ⟨e, he, hbd, hon⟩ := preds_spec h1.2
    exact inv.i.vals x.1 oj x.2 hoj (hon ▸ hall e he hbd) hdj
  exact hob2.out fun k hk => by
    have h1 := List.all_eq_true.1 hb4 k hk
    refine inv.i.old k fun j oj hj hl hd => ?_
    have h2 := List.all_eq_true.1 h1 j (List.mem_range.2 (Array.getElem?_eq_some_iff.1 hj).1)
    simp only [hj, Bool.or_eq_true, beq_iff_eq] at h2
    rcases h2 with rfl | h2
    · rw [getD_both hun] at hl; cases hl
    · rcases h2 with h2 | h2
      · rw [hd] at h2; simp at h2
      · obtain ⟨e, he, hbd, hon⟩ := preds_spec h2
        have h3 := inv.i.closed j oj hj hl e he hbd
        rw [hon, getD_both hun] at h3
        cases h3
theorem op_ofK {Q : Exit → Act → World → Prop} {K : Act → World → Prop} {n i : Nat} {o : Oper} {p : Plan} {s : Array Bool} {a : Act} {w : World} (L : Laws ops S sp T) (inv : InvK ops S sp T J a0 s a w) (hi : i ∈ Region.ready .any ops s) (ho : ops[i]? = some o) (hb : opB ops n i o p = true)
    (hob1 : ObK P S sp T J a0 i o p) (hK : ∀ v w', Rf sp i w w' → Vf sp T J i w v w' → K (a.put o.dst v) w') : wpOp P ops Q i K a w := by
  have h := asked hb (knownK inv hi ho hb hob1)
  unfold wpOp
  simp only [ho]
  split at h
  · rename_i hw
    rw [if_pos hw]
    left
    unfold Oper.wp
    cases hr : (execOp a.eval o).run P w with
    | ok x w' =>
      rw [hr] at h
      cases x with
      | value u => exact hK _ _ h.1 h.2
      | skip => exact hK _ _ h.1 h.2
      | enter g args =>
        refine Calls.mono h fun e w'' he => ?_
        obtain ⟨v, rfl, h1, h2⟩ := he
        exact hK _ _ h1 h2
      | _ => exact h.elim
    | halt x w' => rw [hr] at h; exact h.elim
  · rename_i hw
    rw [if_neg hw]
    exact hK _ _ (L.Rrefl i w) h
/-- The first h in whatever order, by one law for an operation that comes up (Wo), and one for what is behind (Wl). -/
theorem any_tailK {Wn : Nat → Array Bool → Act → World → Prop} {Wo : Nat → (Act → World → Prop) → Act → World → Prop} {Wl : Act → World → Prop} {n h : Nat} {plan : List Plan} {t : List Oper} (L : Laws t.toArray S sp T) (hN : ∀ i, Sn sp i = false → ∀ j v u, J i j v u ∧ J j i u v)
    (hWn : ∀ f s a w, Region.ready .any t.toArray s ≠ [] → (∀ i ∈ Region.ready .any t.toArray s, Wo i (Wn f (s.setIfInBounds i true)) a w) → Wn (f + 1) s a w)
    (hWo : ∀ (i : Nat) (o : Oper) (p : Plan) (s : Array Bool) (a : Act) (w : World) (K : Act → World → Prop), InvK t.toArray S sp T J a0 s a w → i ∈ Region.ready .any t.toArray s → t.toArray[i]? = some o → opB t.toArray n i o p = true → ObK P S sp T J a0 i o p → (∀ v w', Rf sp i w w' → Vf sp T J i w v w' → K (a.put o.dst v) w') → Wo i K a w)
    (hWl : ∀ s a w, Region.seqB .any t.toArray (t.drop h).length h s = true → Wl a w → Wn (t.drop h).length s a w)
    (hB : okB t.toArray n plan = true) (hn : a0.tmps.size = n) (hh : h ≤ t.toArray.size) (hs : h < t.toArray.size → Region.sinkB .any t.toArray h = true ∧ Region.chainB .any t.toArray h = true)
    (hq : Region.seqB .any t.toArray (t.drop h).length h (headS t.toArray.size h) = true)
    (hob : ObsK P S sp T J a0 0 (t.take h) plan) (hQ : ∀ s a w, InvK t.toArray S sp T J a0 s a w → (∀ i, i < h → s.getD i false = true) → (∀ j, h ≤ j → j < t.toArray.size → s.getD j true = false) → Wl a w) :
    ∀ (f : Nat) (s : Array Bool) (a : Act) (w : World), (s.toList.take h).count false = f → InvK t.toArray S sp T J a0 s a w → (∀ j, h ≤ j → j < t.toArray.size → s.getD j true = false) → Wn (f + (t.drop h).length) s a w := by
  intro f
  induction f with
  | zero =>
    intro s a w hf inv htl
    have hall : ∀ i, i < h → s.getD i false = true := fun i hi => by
      have hlt : i < s.size := by rw [inv.i.size]; omega
      by_cases e : s[i] = true
      · simp [hlt, e]
      · exfalso
        have h1 : s[i] = false := by simpa using e
        have : false ∈ s.toList.take h := by
          rw [List.mem_take_iff_getElem]
          exact ⟨i, by simp; omega, by simpa using h1⟩
        rw [List.count_eq_zero] at hf
        exact hf this
    have hse : s = headS t.toArray.size h := by
      apply Array.ext
      · simp [headS, inv.i.size]
      · intro i h1 h2
        have hi : i < t.toArray.size := by rw [← inv.i.size]; exact h1
        simp only [headS, List.getElem_toArray, List.getElem_map, List.getElem_range]
        by_cases e : i < h
        · have := hall i e
          simp only [e, decide_true]
          simpa [h1] using this
        · have := htl i (by omega) hi
          simp only [e, decide_false]
          simpa [h1] using this
    rw [Nat.zero_add]
    exact hWl s a w (by rw [hse]; exact hq) (hQ s a w inv hall htl)
  | succ f ih =>
    intro s a w hf inv htl
    rw [show f + 1 + (t.drop h).length = (f + (t.drop h).length) + 1 from by omega]
    have hB' : ∀ (i : Nat) (o : Oper), t.toArray[i]? = some o → ∃ p, opB t.toArray n i o p = true := fun i o ho => (okB_at hB ho).imp fun p h => h.2
    have hex : ∃ k, k < h ∧ s.getD k true = false := by
      have : 0 < (s.toList.take h).count false := by omega
      rw [List.count_pos_iff, List.mem_take_iff_getElem] at this
      obtain ⟨k, hk, e⟩ := this
      have hk1 : k < h := by simp at hk; omega
      have hk2 : k < s.size := by simp at hk; omega
      have e' : s[k] = false := by simpa using e
      exact ⟨k, hk1, by simp [hk2, e']⟩
    obtain ⟨k0, hk0, hk0s⟩ := hex
    refine hWn _ _ _ _ (fun hr => ?_) fun i hi => ?_
    · have h1 := done hB' inv.i.size hr k0 (by omega)
      have h2 := getD_both hk0s
      rw [h2] at h1
      cases h1
    · obtain ⟨hun, o, ho, hall⟩ := mem_ready.1 hi
      have hlt : i < s.size := by rw [inv.i.size]; exact (Array.getElem?_eq_some_iff.1 ho).1
      have hhead : HeadInv .any t.toArray h s := ⟨inv.i.size, inv.i.closed, htl⟩
      have hih : i < h := by
        refine Nat.lt_of_not_le fun hle => ?_
        have hlt' : h < t.toArray.size := by have := inv.i.size; omega
        exact tail_waits (hs hlt').1 (hs hlt').2 hlt' hhead _ k0 rfl hk0 hk0s i hle hi
      have hcnt : ((s.setIfInBounds i true).toList.take h).count false = f := by
        have h1 : s[i] = false := by simpa [hlt] using hun
        rw [Array.toList_setIfInBounds, List.take_set, List.count_set (by simp; omega)]
        simp [h1, hf]
      obtain ⟨p, hp, hb⟩ := okB_at hB ho
      have hob1 := obsK_at hob (i := i) (by rw [List.getElem?_take_of_lt hih]; simpa using ho) hp
      rw [Nat.zero_add] at hob1
      exact hWo i o p s a w _ inv hi ho hb hob1 fun v w' h1 h2 => ih _ _ _ hcnt (inv.step L hN hn hi ho hb h1 h2) fun j hj hj' => by
        rw [getD_set_ne true (by omega)]; exact htl j hj hj'
/-- **Each of the first h operations once, whatever order comes; then the rest.** -/
theorem regionK {w0 : World} {id : Nat} {Q : Exit → Act → World → Prop} {t : List Oper} (S : World → Prop) (sp : List Sp) (J : Nat → Nat → Value → Value → Prop) (Ts : List (Value → World → Prop)) (n h : Nat) (plan : List Plan) (es : List (Nat × Nat)) (hm : P.follows .mixedOrders = true) (hn : a0.tmps.size = n) (hB : okB t.toArray n plan = true) (hT : tailJ t h = true) (hE : allB t h es = true)
    (L : Laws t.toArray S sp (tys Ts)) (h0 : S { w0 with drawn := w0.drawn + 1 }) (hf : ∀ x ∈ sp, x.fact { w0 with drawn := w0.drawn + 1 })
    (hob : ObsK P S sp (tys Ts) J a0 0 (t.take h) plan) (hN : ∀ i, Sn sp i = false → ∀ j v u, J i j v u ∧ J j i u v) (hQ : ∀ a w, S w → (∀ i j oi oj di dj, t.toArray[i]? = some oi → t.toArray[j]? = some oj → oi.dst = some di → oj.dst = some dj → i < h → j < h → i ≠ j → J i j (a.eval (.tmp di)) (a.eval (.tmp dj))) → Pre (tys Ts) a w es (wpList P t.toArray Q (t.drop h) (puts a es a0) w)) : (Code.region id t.toArray true).wp P Q a0 w0 := by
  simp only [tailJ, Bool.and_eq_true, Bool.or_eq_true, decide_eq_true_eq] at hT
  obtain ⟨⟨h1, h2⟩, h4⟩ := hT
  have h1' : h ≤ t.length := by simpa using h1
  have hsz : h + (t.drop h).length = t.toArray.size := by simp; omega
  have key := any_tailK (P := P) (S := S) (sp := sp) (T := tys Ts) (J := J) (a0 := a0) (Wn := fun f s a w => wpAny P .any t.toArray Q f s a w) (Wo := fun i K a w => wpOp P t.toArray Q i K a w) (Wl := fun a w => wpList P t.toArray Q (t.drop h) a w) L hN
    (fun f s a w hne hall => ⟨fun hr => absurd hr hne, hall⟩) (fun i o p s a w K inv hi ho hb hob hK => op_ofK L inv hi ho hb hob hK)
    (fun s a w hB hl => wpAny_of_seq (t.drop h) h s a w (fun j => by simp [List.getElem?_drop]) hB hl) hB hn h1 (fun hlt => h2.resolve_left (by omega)) h4 hob
    (fun s a w inv hall htl => invJ_end (G := fun a => wpList P t.toArray Q (t.drop h) a w) hE inv.i hall htl (hQ a w inv.i.st (fun i j oi oj di dj h1 h2 h3 h4 hi hj hne => inv.jt i j oi oj di dj h1 h2 h3 h4 (hall i hi) (hall j hj) hne))) h (Array.replicate t.toArray.size false) a0 { w0 with drawn := w0.drawn + 1 } (by simp; omega) ⟨inv0 h0 hf, fun i j oi oj di dj _ _ _ _ hl _ _ => (by rw [getD_replicate_false] at hl; cases hl)⟩ (fun j _ hj => getD_in (by simpa using hj) (getD_replicate_false _ _))
  rw [hsz] at key
  exact wp_region_any hm key
theorem okF {i : Nat} {w : World} {r : Result Next} (h : Sn sp i = false) (k : StepOK P Gr (T i) w r) : StepOK P (Rf sp i) (Vf sp T J i w) w r := by
  have e1 : Rf sp i = Gr := by
    unfold Rf
    unfold Sn at h
    cases hx : sp.find? (fun x => x.ix == i) with
    | none => rfl
    | some x => rw [hx] at h; cases h
  have e2 : Vf sp T J i w = T i := by unfold Vf; rw [h]
  rw [e1, e2]; exact k
theorem okS {i : Nat} {w w' : World} {v : Value} {ρ : Operand → Value} {o : Oper} {R : World → World → Prop} (h : Sn sp i = true) (hR : Rf sp i = R) (hrun : (execOp ρ o).run P w = .ok (.value v) w') (hg : R w w') (hv : T i v w') (hj : ∀ j u, T j u w → J i j v u ∧ J j i u v) :
    StepOK P (Rf sp i) (Vf sp T J i w) w ((execOp ρ o).run P w) := by
  have e2 : Vf sp T J i w = fun v w' => T i v w' ∧ ∀ j u, T j u w → J i j v u ∧ J j i u v := by unfold Vf; rw [h]
  rw [hR, e2, hrun]; exact ⟨hg, hv, hj⟩
/-- Two operations turn something. -/
theorem Laws.two {Ts : List (Value → World → Prop)} {x y : Sp} (hne : x.ix ≠ y.ix) (hr : ∀ w, x.rel w w) (hr' : ∀ w, y.rel w w) (hS : ∀ w w', S w → Gr w w' → S w') (hSx : ∀ w w', S w → x.rel w w' → S w') (hSy : ∀ w w', S w → y.rel w w' → S w')
    (hF : ∀ w w', x.fact w → Gr w w' → x.fact w') (hF' : ∀ w w', y.fact w → Gr w w' → y.fact w') (hxy : ∀ w w', x.fact w → y.rel w w' → x.fact w') (hyx : ∀ w w', y.fact w → x.rel w w' → y.fact w') (hm : Monos Ts)
    (hx : ∀ j, j ≠ x.ix → (∀ o, ops[j]? = some o → preds o x.ix = false) → ∀ v w w', tys Ts j v w → x.rel w w' → tys Ts j v w') (hy : ∀ j, j ≠ y.ix → (∀ o, ops[j]? = some o → preds o y.ix = false) → ∀ v w w', tys Ts j v w → y.rel w w' → tys Ts j v w') : Laws ops S [x, y] (tys Ts) := by
  have two : ∀ z, z ∈ [x, y] → z = x ∨ z = y := fun z h => by simpa using h
  refine ⟨fun z h => ?_, hS, fun z h => ?_, fun z h => ?_, fun z h u k => ?_, monos_at hm, fun z h => ?_⟩
  · rcases two z h with rfl | rfl <;> assumption
  · rcases two z h with rfl | rfl <;> assumption
  · rcases two z h with rfl | rfl <;> assumption
  · rcases two z h with rfl | rfl <;> rcases two u k with rfl | rfl <;> intro he
    · exact absurd rfl he
    · exact hxy
    · exact hyx
    · exact absurd rfl he
  · rcases two z h with rfl | rfl <;> intro j o ho hj hp
    · exact hx j hj fun o' ho' => by rw [ho] at ho'; injection ho' with ho'; rw [← ho']; exact hp
    · exact hy j hj fun o' ho' => by rw [ho] at ho'; injection ho' with ho'; rw [← ho']; exact hp
/-- Of two values, of which each is one of these two, the blocks are unlike. -/
def Jd (x y : Nat) (i j : Nat) (v u : Value) : Prop := (i = x ∧ j = y ∨ i = y ∧ j = x) → ∀ b, v.ownBlock = some b → u.ownBlock ≠ some b
end
end Gt
end
section
/- Two rows of one's own, onto each of which something is appended, in whatever order. -/
namespace Gw
open Go Go.RowKit Go.Shelf
theorem own_by {w w' : World} {base c : Nat} {e : TypeId} {A : Option Addr} {l : List Nat} {row : Option Nat} (h : Own w base e A c l) (hg : w.grownBy w' row) (hne : ∀ b o, A = some ⟨b, o, none⟩ → row ≠ some b) : Own w' base e A c l := by
  refine ⟨⟨h.1.1, ?_⟩, h.2⟩
  rcases h.1.2 with h0 | ⟨g, cap, cur, hv, hb, hgb, h0⟩
  · exact .inl h0
  · refine .inr ⟨g, cap, cur, hv, hb, (hg.block g (Array.getElem?_eq_some_iff.1 hgb).1 (fun e => ?_)).trans hgb, h0⟩
    injection hv with h1
    exact hne g 0 h1 e.symm
theorem own_blk {w : World} {base c n b : Nat} {e : TypeId} {A : Option Addr} {l : List Nat} (h : Own w base e A c l) : (Value.slice A n c).ownBlock = some b ↔ ∃ o, A = some ⟨b, o, none⟩ := by
  constructor
  · intro k; exact ⟨0, h.at0 k⟩
  · rintro ⟨o, rfl⟩; simp [Value.ownBlock]
theorem AB.rowA {base c c' : Nat} {e : TypeId} {W : World} {A A' : Option Addr} {l l' : List Nat} (h : AB base e W A c l A' c' l') {n : Nat} (r : Nat) (hr : (Value.slice A n c).ownBlock = some r) : r < W.heap.size ∧ ∀ o, A' ≠ some ⟨r, o, none⟩ :=
  ⟨(ownB h.a hr).2, fun o e => h.dis r n n hr (by rw [e]; simp [Value.ownBlock])⟩
theorem AB.rowA' {base c c' : Nat} {e : TypeId} {W : World} {A A' : Option Addr} {l l' : List Nat} (h : AB base e W A c l A' c' l') (b o : Nat) (hA : A = some ⟨b, o, none⟩) : b < W.heap.size ∧ ∀ o', A' ≠ some ⟨b, o', none⟩ :=
  h.rowA (n := 0) b (by rw [hA]; simp [Value.ownBlock])
end Gw
namespace Go.Proofs.Ytaknffdokkfmgaa
open Go.RowKit Go.Shelf Gw Pol
theorem ApIs.by {base B n : Nat} {A : Option Addr} {l : List Nat} {v : Value} {w w' : World} {row : Option Nat} (h : ApIs base B n A l v w) (hg : w.grownBy w' row) (hr : ∀ r, row = some r → r < B ∧ ∀ o, A ≠ some ⟨r, o, none⟩) : ApIs base B n A l v w' := by
  obtain ⟨A2, c2, h1, h2, h3⟩ := h
  refine ⟨A2, c2, h1, own_by h2 hg fun b o e k => ?_, h3⟩
  obtain ⟨h4, h5⟩ := hr b k
  rcases h3 b o e with h6 | ⟨o', h6⟩
  · omega
  · exact h5 o' h6
theorem ap_dis {base B n n2 : Nat} {A A' A2 : Option Addr} {c2 base2 : Nat} {e2 : TypeId} {l l2 : List Nat} {u : Value} {w w' : World} (hloc : ∀ b o, A2 = some ⟨b, o, none⟩ → w.heap.size ≤ b ∨ ∃ o', A = some ⟨b, o', none⟩) (hA : ∀ b o, A = some ⟨b, o, none⟩ → b < B ∧ ∀ o', A' ≠ some ⟨b, o', none⟩)
    (hown : Gw.Own w' base2 e2 A2 c2 l2) (hu : ApIs base B n A' l u w) (b : Nat) (h1 : (Value.slice A2 n2 c2).ownBlock = some b) : u.ownBlock ≠ some b := by
  intro h2
  obtain ⟨A4, c4, rfl, ho4, hl4⟩ := hu
  obtain ⟨o, hA2⟩ := (own_blk hown).1 h1
  obtain ⟨o4, hA4⟩ := (own_blk ho4).1 h2
  have hlt : b < w.heap.size := by rw [hA4] at ho4; exact ho4.lt.2
  rcases hloc b o hA2 with h3 | ⟨o', h3⟩
  · omega
  · obtain ⟨h4, h5⟩ := hA b o' h3
    rcases hl4 b o4 hA4 with h6 | ⟨o'', h6⟩
    · omega
    · exact h5 o'' h6
end Go.Proofs.Ytaknffdokkfmgaa
end
