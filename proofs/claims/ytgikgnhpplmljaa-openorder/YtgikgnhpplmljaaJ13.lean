import Derived.Test.YtgikgnhpplmljaaProg
import Derived.Test.YtgikgnhpplmljaaJ1
import Derived.Test.YtgikgnhpplmljaaJ2
import Derived.Test.YtgikgnhpplmljaaJ3
import Derived.Test.YtgikgnhpplmljaaJ4
import Derived.Test.YtgikgnhpplmljaaJ5
import Derived.Test.YtgikgnhpplmljaaJ6
import Derived.Test.YtgikgnhpplmljaaJ10
import Derived.Test.YtgikgnhpplmljaaJ11
import Derived.Test.YtgikgnhpplmljaaJ12
section
/- A region as Gtj's, where of the values of those operations that turn something more is told in pairs: of each two, once both have come. -/
namespace Gt
open Go Go.RowKit
/-- Is there such an operation? -/
def Sn (sp : List Sp) (i : Nat) : Bool := (sp.find? (fun x => x.ix == i)).isSome
section
variable {P : Program} {ops : Array Oper} {S : World → Prop} {sp : List Sp} {T : Nat → Value → World → Prop} {a0 : Act} {J : Nat → Nat → Value → Value → Prop}
/-- What is asked of an operation's value: of one that turns something, also how it stands to those that came before. -/
def Vf (sp : List Sp) (T : Nat → Value → World → Prop) (J : Nat → Nat → Value → Value → Prop) (i : Nat) (w : World) : Value → World → Prop := match Sn sp i with | true => fun v w' => T i v w' ∧ ∀ j u, T j u w → J i j v u ∧ J j i u v | false => T i
theorem Vf.val {i : Nat} {w w' : World} {v : Value} (h : Vf sp T J i w v w') : T i v w' := by
  unfold Vf at h
  cases e : Sn sp i with
  | true => rw [e] at h; exact h.1
  | false => rw [e] at h; exact h
def ObK (P : Program) (S : World → Prop) (sp : List Sp) (T : Nat → Value → World → Prop) (J : Nat → Nat → Value → Value → Prop) (a0 : Act) (i : Nat) (o : Oper) (p : Plan) : Prop :=
  ∀ a w, S w → Ff sp i w → Pre T a w p.ds (Kept a a0 p.ks (Guarded a p.gd (StepOK P (Rf sp i) (Vf sp T J i w) w ((execOp a.eval o).run P w)) (Vf sp T J i w undef w)))
def ObsK (P : Program) (S : World → Prop) (sp : List Sp) (T : Nat → Value → World → Prop) (J : Nat → Nat → Value → Value → Prop) (a0 : Act) : Nat → List Oper → List Plan → Prop
  | i, o :: t, p :: ps => ObK P S sp T J a0 i o p ∧ ObsK P S sp T J a0 (i + 1) t ps
  | _, _, _ => True
structure InvK (ops : Array Oper) (S : World → Prop) (sp : List Sp) (T : Nat → Value → World → Prop) (J : Nat → Nat → Value → Value → Prop) (a0 : Act) (s : Array Bool) (a : Act) (w : World) : Prop where
  i : InvJ ops S sp T a0 s a w
  jt : ∀ i j oi oj di dj, ops[i]? = some oi → ops[j]? = some oj → oi.dst = some di → oj.dst = some dj → s.getD i false = true → s.getD j false = true → i ≠ j → J i j (a.eval (.tmp di)) (a.eval (.tmp dj))
theorem obsK_at {t : List Oper} : ∀ {plan : List Plan} {k : Nat}, ObsK P S sp T J a0 k t plan → ∀ {i : Nat} {o : Oper} {p : Plan}, t[i]? = some o → plan[i]? = some p → ObK P S sp T J a0 (k + i) o p := by
  induction t with
  | nil => intro plan k _ i o p h; simp at h
  | cons x t ih =>
    intro plan k h i o p h1 h2
    cases plan with
    | nil => simp at h2
    | cons q ps =>
      cases i with
      | zero => simp at h1 h2; subst h1 h2; exact h.1
      | succ i =>
        have := ih h.2 (i := i) (by simpa using h1) (by simpa using h2)
        rw [show k + (i + 1) = k + 1 + i from by omega]; exact this
theorem InvK.step {s : Array Bool} {a : Act} {w w' : World} {i : Nat} {o : Oper} {v : Value} {n : Nat} {p : Plan} (inv : InvK ops S sp T J a0 s a w) (L : Laws ops S sp T) (hN : ∀ i, Sn sp i = false → ∀ j v u, J i j v u ∧ J j i u v)
    (hn : a0.tmps.size = n) (hi : i ∈ Region.ready .any ops s) (ho : ops[i]? = some o) (hb : opB ops n i o p = true) (hw : Rf sp i w w') (hv : Vf sp T J i w v w') : InvK ops S sp T J a0 (s.setIfInBounds i true) (a.put o.dst v) w' := by
  refine ⟨inv.i.step L hn hi ho hb hw hv.val, ?_⟩
  obtain ⟨hun, oi, hoi, hall⟩ := mem_ready.1 hi
  have hb0 := hb
  simp only [opB, Bool.and_eq_true] at hb
  obtain ⟨⟨⟨⟨⟨hb1, _⟩, _⟩, _⟩, hb5⟩, _⟩ := hb
  have hset : ∀ j, (s.setIfInBounds i true).getD j false = true → j = i ∨ s.getD j false = true := fun j hj => by
    by_cases e : j = i
    · exact .inl e
    · right; rwa [getD_set_ne false (Ne.symm e)] at hj
  have hnew : ∀ d, o.dst = some d → (a.put o.dst v).eval (.tmp d) = v := fun d hd => by
    rw [hd] at hb1 ⊢
    rw [eval_put_same (by rw [inv.i.tmps, hn]; simpa using hb1)]
  have hold : ∀ j oj d, ops[j]? = some oj → oj.dst = some d → s.getD j false = true → j ≠ i → (a.put o.dst v).eval (.tmp d) = a.eval (.tmp d) := fun j oj d hj hd hl e => by
    have h1 := (List.all_eq_true.1 hb5) j (List.mem_range.2 (Array.getElem?_eq_some_iff.1 hj).1)
    simp only [hj, Bool.or_eq_true, beq_iff_eq, e, false_or] at h1
    have hne : ∀ d', o.dst = some d' → Operand.tmp d ≠ .tmp d' := fun d' hd' hx => by
      injection hx with hx
      rcases h1 with h1 | h1
      · rw [hd'] at h1; cases h1
      · rw [hd', hd, hx] at h1; simp at h1
    rw [Act.eval_put fun d' hd' => hne d' hd']
  have hpair : ∀ j u, T j u w → J i j v u ∧ J j i u v := fun j u hu => by
    unfold Vf at hv
    cases e : Sn sp i with
    | true => rw [e] at hv; exact hv.2 j u hu
    | false => exact hN i e j v u
  intro j k oj ok dj dk hj hk hdj hdk hlj hlk hne
  by_cases ej : j = i
  · subst ej
    rw [ho] at hj; obtain rfl : o = oj := by simpa using hj
    have ek : k ≠ j := fun e => hne e.symm
    have hlk' := (hset k hlk).resolve_left ek
    rw [hnew dj hdj, hold k ok dk hk hdk hlk' ek]
    exact (hpair k _ (inv.i.vals k ok dk hk hlk' hdk)).1
  · have hlj' := (hset j hlj).resolve_left ej
    by_cases ek : k = i
    · subst ek
      rw [ho] at hk; obtain rfl : o = ok := by simpa using hk
      rw [hnew dk hdk, hold j oj dj hj hdj hlj' ej]
      exact (hpair j _ (inv.i.vals j oj dj hj hlj' hdj)).2
    · have hlk' := (hset k hlk).resolve_left ek
      rw [hold j oj dj hj hdj hlj' ej, hold k ok dk hk hdk hlk' ek]
      exact inv.jt j k oj ok dj dk hj hk hdj hdk hlj' hlk' hne
/-- What is known of an operation that comes up. -/
theorem knownK {n i : Nat} {o : Oper} {p : Plan} {s : Array Bool} {a : Act} {w : World} (inv : InvK ops S sp T J a0 s a w) (hi : i ∈ Region.ready .any ops s) (ho : ops[i]? = some o) (hb : opB ops n i o p = true)
    (hob1 : ObK P S sp T J a0 i o p) : Guarded a p.gd (StepOK P (Rf sp i) (Vf sp T J i w) w ((execOp a.eval o).run P w)) (Vf sp T J i w undef w) := by
  obtain ⟨hun, oi, hoi, hall⟩ := mem_ready.1 hi
  rw [ho] at hoi
  obtain rfl : o = oi := by simpa using hoi
  have hff : Ff sp i w := by
    unfold Ff
    cases h : sp.find? (fun x => x.ix == i) with
    | none => trivial
    | some x =>
      have hx : x.ix = i := by simpa using List.find?_some h
      exact inv.i.un x (List.mem_of_find?_eq_some h) (by rw [hx, getD_both hun])
  have hob1 := hob1 a w inv.i.st hff
  simp only [opB, Bool.and_eq_true] at hb
  obtain ⟨⟨⟨⟨⟨_, _⟩, hb3⟩, hb4⟩, _⟩, hb6⟩ := hb
  have hob2 := hob1.out fun x hx => by
    have h1 := List.all_eq_true.1 hb3 x hx
    simp only [Bool.and_eq_true] at h1
    obtain ⟨oj, hoj, hdj⟩ := dstB_spec h1.1
    obtain ⟨e, he, hbd, hon⟩ := preds_spec h1.2
    exact inv.i.vals x.1 oj x.2 hoj (hon ▸ hall e he hbd) hdj
  exact hob2.out fun k hk => by
    have h1 := List.all_eq_true.1 hb4 k hk
    refine inv.i.old k fun j oj hj hl hd => ?_
    have h2 := List.all_eq_true.1 h1 j (List.mem_range.2 (Array.getElem?_eq_some_iff.1 hj).1)
    simp only [hj, Bool.or_eq_true, beq_iff_eq] at h2
    rcases h2 with rfl | h2
    · rw [getD_both hun] at hl; cases hl
    · rcases h2 with h2 | h2
      · rw [hd] at h2; simp at h2
      · obtain ⟨e, he, hbd, hon⟩ := preds_spec h2
        have h3 := inv.i.closed j oj hj hl e he hbd
        rw [hon, getD_both hun] at h3
        cases h3
theorem op_ofK {Q : Exit → Act → World → Prop} {K : Act → World → Prop} {n i : Nat} {o : Oper} {p : Plan} {s : Array Bool} {a : Act} {w : World} (L : Laws ops S sp T) (inv : InvK ops S sp T J a0 s a w) (hi : i ∈ Region.ready .any ops s) (ho : ops[i]? = some o) (hb : opB ops n i o p = true)
    (hob1 : ObK P S sp T J a0 i o p) (hK : ∀ v w', Rf sp i w w' → Vf sp T J i w v w' → K (a.put o.dst v) w') : wpOp P ops Q i K a w := by
  have h := asked hb (knownK inv hi ho hb hob1)
  unfold wpOp
  simp only [ho]
  split at h
  · rename_i hw
    rw [if_pos hw]
    left
    unfold Oper.wp
    cases hr : (execOp a.eval o).run P w with
    | ok x w' =>
      rw [hr] at h
      cases x with
      | value u => exact hK _ _ h.1 h.2
      | skip => exact hK _ _ h.1 h.2
      | enter g args =>
        refine Calls.mono h fun e w'' he => ?_
        obtain ⟨v, rfl, h1, h2⟩ := he
        exact hK _ _ h1 h2
      | _ => exact h.elim
    | halt x w' => rw [hr] at h; exact h.elim
  · rename_i hw
    rw [if_neg hw]
    exact hK _ _ (L.Rrefl i w) h
/-- The first h in whatever order, by one law for an operation that comes up (Wo), and one for what is behind (Wl). -/
theorem any_tailK {Wn : Nat → Array Bool → Act → World → Prop} {Wo : Nat → (Act → World → Prop) → Act → World → Prop} {Wl : Act → World → Prop} {n h : Nat} {plan : List Plan} {t : List Oper} (L : Laws t.toArray S sp T) (hN : ∀ i, Sn sp i = false → ∀ j v u, J i j v u ∧ J j i u v)
    (hWn : ∀ f s a w, Region.ready .any t.toArray s ≠ [] → (∀ i ∈ Region.ready .any t.toArray s, Wo i (Wn f (s.setIfInBounds i true)) a w) → Wn (f + 1) s a w)
    (hWo : ∀ (i : Nat) (o : Oper) (p : Plan) (s : Array Bool) (a : Act) (w : World) (K : Act → World → Prop), InvK t.toArray S sp T J a0 s a w → i ∈ Region.ready .any t.toArray s → t.toArray[i]? = some o → opB t.toArray n i o p = true → ObK P S sp T J a0 i o p → (∀ v w', Rf sp i w w' → Vf sp T J i w v w' → K (a.put o.dst v) w') → Wo i K a w)
    (hWl : ∀ s a w, Region.seqB .any t.toArray (t.drop h).length h s = true → Wl a w → Wn (t.drop h).length s a w)
    (hB : okB t.toArray n plan = true) (hn : a0.tmps.size = n) (hh : h ≤ t.toArray.size) (hs : h < t.toArray.size → Region.sinkB .any t.toArray h = true ∧ Region.chainB .any t.toArray h = true)
    (hq : Region.seqB .any t.toArray (t.drop h).length h (headS t.toArray.size h) = true)
    (hob : ObsK P S sp T J a0 0 (t.take h) plan) (hQ : ∀ s a w, InvK t.toArray S sp T J a0 s a w → (∀ i, i < h → s.getD i false = true) → (∀ j, h ≤ j → j < t.toArray.size → s.getD j true = false) → Wl a w) :
    ∀ (f : Nat) (s : Array Bool) (a : Act) (w : World), (s.toList.take h).count false = f → InvK t.toArray S sp T J a0 s a w → (∀ j, h ≤ j → j < t.toArray.size → s.getD j true = false) → Wn (f + (t.drop h).length) s a w := by
  intro f
  induction f with
  | zero =>
    intro s a w hf inv htl
    have hall : ∀ i, i < h → s.getD i false = true := fun i hi => by
      have hlt : i < s.size := by rw [inv.i.size]; omega
      by_cases e : s[i] = true
      · simp [hlt, e]
      · exfalso
        have h1 : s[i] = false := by simpa using e
        have : false ∈ s.toList.take h := by
          rw [List.mem_take_iff_getElem]
          exact ⟨i, by simp; omega, by simpa using h1⟩
        rw [List.count_eq_zero] at hf
        exact hf this
    have hse : s = headS t.toArray.size h := by
      apply Array.ext
      · simp [headS, inv.i.size]
      · intro i h1 h2
        have hi : i < t.toArray.size := by rw [← inv.i.size]; exact h1
        simp only [headS, List.getElem_toArray, List.getElem_map, List.getElem_range]
        by_cases e : i < h
        · have := hall i e
          simp only [e, decide_true]
          simpa [h1] using this
        · have := htl i (by omega) hi
          simp only [e, decide_false]
          simpa [h1] using this
    rw [Nat.zero_add]
    exact hWl s a w (by rw [hse]; exact hq) (hQ s a w inv hall htl)
  | succ f ih =>
    intro s a w hf inv htl
    rw [show f + 1 + (t.drop h).length = (f + (t.drop h).length) + 1 from by omega]
    have hB' : ∀ (i : Nat) (o : Oper), t.toArray[i]? = some o → ∃ p, opB t.toArray n i o p = true := fun i o ho => (okB_at hB ho).imp fun p h => h.2
    have hex : ∃ k, k < h ∧ s.getD k true = false := by
      have : 0 < (s.toList.take h).count false := by omega
      rw [List.count_pos_iff, List.mem_take_iff_getElem] at this
      obtain ⟨k, hk, e⟩ := this
      have hk1 : k < h := by simp at hk; omega
      have hk2 : k < s.size := by simp at hk; omega
      have e' : s[k] = false := by simpa using e
      exact ⟨k, hk1, by simp [hk2, e']⟩
    obtain ⟨k0, hk0, hk0s⟩ := hex
    refine hWn _ _ _ _ (fun hr => ?_) fun i hi => ?_
    · have h1 := done hB' inv.i.size hr k0 (by omega)
      have h2 := getD_both hk0s
      rw [h2] at h1
      cases h1
    · obtain ⟨hun, o, ho, hall⟩ := mem_ready.1 hi
      have hlt : i < s.size := by rw [inv.i.size]; exact (Array.getElem?_eq_some_iff.1 ho).1
      have hhead : HeadInv .any t.toArray h s := ⟨inv.i.size, inv.i.closed, htl⟩
      have hih : i < h := by
        refine Nat.lt_of_not_le fun hle => ?_
        have hlt' : h < t.toArray.size := by have := inv.i.size; omega
        exact tail_waits (hs hlt').1 (hs hlt').2 hlt' hhead _ k0 rfl hk0 hk0s i hle hi
      have hcnt : ((s.setIfInBounds i true).toList.take h).count false = f := by
        have h1 : s[i] = false := by simpa [hlt] using hun
        rw [Array.toList_setIfInBounds, List.take_set, List.count_set (by simp; omega)]
        simp [h1, hf]
      obtain ⟨p, hp, hb⟩ := okB_at hB ho
      have hob1 := obsK_at hob (i := i) (by rw [List.getElem?_take_of_lt hih]; simpa using ho) hp
      rw [Nat.zero_add] at hob1
      exact hWo i o p s a w _ inv hi ho hb hob1 fun v w' h1 h2 => ih _ _ _ hcnt (inv.step L hN hn hi ho hb h1 h2) fun j hj hj' => by
        rw [getD_set_ne true (by omega)]; exact htl j hj hj'
/-- **Each of the first h operations once, whatever order comes; then the rest.** -/
theorem regionK {w0 : World} {id : Nat} {Q : Exit → Act → World → Prop} {t : List Oper} (S : World → Prop) (sp : List Sp) (J : Nat → Nat → Value → Value → Prop) (Ts : List (Value → World → Prop)) (n h : Nat) (plan : List Plan) (es : List (Nat × Nat)) (hm : P.follows .mixedOrders = true) (hn : a0.tmps.size = n) (hB : okB t.toArray n plan = true) (hT : tailJ t h = true) (hE : allB t h es = true)
    (L : Laws t.toArray S sp (tys Ts)) (h0 : S { w0 with drawn := w0.drawn + 1 }) (hf : ∀ x ∈ sp, x.fact { w0 with drawn := w0.drawn + 1 })
    (hob : ObsK P S sp (tys Ts) J a0 0 (t.take h) plan) (hN : ∀ i, Sn sp i = false → ∀ j v u, J i j v u ∧ J j i u v) (hQ : ∀ a w, S w → (∀ i j oi oj di dj, t.toArray[i]? = some oi → t.toArray[j]? = some oj → oi.dst = some di → oj.dst = some dj → i < h → j < h → i ≠ j → J i j (a.eval (.tmp di)) (a.eval (.tmp dj))) → Pre (tys Ts) a w es (wpList P t.toArray Q (t.drop h) (puts a es a0) w)) : (Code.region id t.toArray true).wp P Q a0 w0 := by
  simp only [tailJ, Bool.and_eq_true, Bool.or_eq_true, decide_eq_true_eq] at hT
  obtain ⟨⟨h1, h2⟩, h4⟩ := hT
  have h1' : h ≤ t.length := by simpa using h1
  have hsz : h + (t.drop h).length = t.toArray.size := by simp; omega
  have key := any_tailK (P := P) (S := S) (sp := sp) (T := tys Ts) (J := J) (a0 := a0) (Wn := fun f s a w => wpAny P .any t.toArray Q f s a w) (Wo := fun i K a w => wpOp P t.toArray Q i K a w) (Wl := fun a w => wpList P t.toArray Q (t.drop h) a w) L hN
    (fun f s a w hne hall => ⟨fun hr => absurd hr hne, hall⟩) (fun i o p s a w K inv hi ho hb hob hK => op_ofK L inv hi ho hb hob hK)
    (fun s a w hB hl => wpAny_of_seq (t.drop h) h s a w (fun j => by simp [List.getElem?_drop]) hB hl) hB hn h1 (fun hlt => h2.resolve_left (by omega)) h4 hob
    (fun s a w inv hall htl => invJ_end (G := fun a => wpList P t.toArray Q (t.drop h) a w) hE inv.i hall htl (hQ a w inv.i.st (fun i j oi oj di dj h1 h2 h3 h4 hi hj hne => inv.jt i j oi oj di dj h1 h2 h3 h4 (hall i hi) (hall j hj) hne))) h (Array.replicate t.toArray.size false) a0 { w0 with drawn := w0.drawn + 1 } (by simp; omega) ⟨inv0 h0 hf, fun i j oi oj di dj _ _ _ _ hl _ _ => (by rw [getD_replicate_false] at hl; cases hl)⟩ (fun j _ hj => getD_in (by simpa using hj) (getD_replicate_false _ _))
  rw [hsz] at key
  exact wp_region_any hm key
theorem okF {i : Nat} {w : World} {r : Result Next} (h : Sn sp i = false) (k : StepOK P Gr (T i) w r) : StepOK P (Rf sp i) (Vf sp T J i w) w r := by
  have e1 : Rf sp i = Gr := by
    unfold Rf
    unfold Sn at h
    cases hx : sp.find? (fun x => x.ix == i) with
    | none => rfl
    | some x => rw [hx] at h; cases h
  have e2 : Vf sp T J i w = T i := by unfold Vf; rw [h]
  rw [e1, e2]; exact k
theorem okS {i : Nat} {w w' : World} {v : Value} {ρ : Operand → Value} {o : Oper} {R : World → World → Prop} (h : Sn sp i = true) (hR : Rf sp i = R) (hrun : (execOp ρ o).run P w = .ok (.value v) w') (hg : R w w') (hv : T i v w') (hj : ∀ j u, T j u w → J i j v u ∧ J j i u v) :
    StepOK P (Rf sp i) (Vf sp T J i w) w ((execOp ρ o).run P w) := by
  have e2 : Vf sp T J i w = fun v w' => T i v w' ∧ ∀ j u, T j u w → J i j v u ∧ J j i u v := by unfold Vf; rw [h]
  rw [hR, e2, hrun]; exact ⟨hg, hv, hj⟩
/-- Two operations turn something. -/
theorem Laws.two {Ts : List (Value → World → Prop)} {x y : Sp} (hne : x.ix ≠ y.ix) (hr : ∀ w, x.rel w w) (hr' : ∀ w, y.rel w w) (hS : ∀ w w', S w → Gr w w' → S w') (hSx : ∀ w w', S w → x.rel w w' → S w') (hSy : ∀ w w', S w → y.rel w w' → S w')
    (hF : ∀ w w', x.fact w → Gr w w' → x.fact w') (hF' : ∀ w w', y.fact w → Gr w w' → y.fact w') (hxy : ∀ w w', x.fact w → y.rel w w' → x.fact w') (hyx : ∀ w w', y.fact w → x.rel w w' → y.fact w') (hm : Monos Ts)
    (hx : ∀ j, j ≠ x.ix → (∀ o, ops[j]? = some o → preds o x.ix = false) → ∀ v w w', tys Ts j v w → x.rel w w' → tys Ts j v w') (hy : ∀ j, j ≠ y.ix → (∀ o, ops[j]? = some o → preds o y.ix = false) → ∀ v w w', tys Ts j v w → y.rel w w' → tys Ts j v w') : Laws ops S [x, y] (tys Ts) := by
  have two : ∀ z, z ∈ [x, y] → z = x ∨ z = y := fun z h => by simpa using h
  refine ⟨fun z h => ?_, hS, fun z h => ?_, fun z h => ?_, fun z h u k => ?_, monos_at hm, fun z h => ?_⟩
  · rcases two z h with rfl | rfl <;> assumption
  · rcases two z h with rfl | rfl <;> assumption
  · rcases two z h with rfl | rfl <;> assumption
  · rcases two z h with rfl | rfl <;> rcases two u k with rfl | rfl <;> intro he
    · exact absurd rfl he
    · exact hxy
    · exact hyx
    · exact absurd rfl he
  · rcases two z h with rfl | rfl <;> intro j o ho hj hp
    · exact hx j hj fun o' ho' => by rw [ho] at ho'; injection ho' with ho'; rw [← ho']; exact hp
    · exact hy j hj fun o' ho' => by rw [ho] at ho'; injection ho' with ho'; rw [← ho']; exact hp
/-- Of two values, of which each is one of these two, the blocks are unlike. -/
def Jd (x y : Nat) (i j : Nat) (v u : Value) : Prop := (i = x ∧ j = y ∨ i = y ∧ j = x) → ∀ b, v.ownBlock = some b → u.ownBlock ≠ some b
end
end Gt
end
section
/- A slice of one byte; a row onto which something was appended, and where it lies. -/
namespace Go.Proofs.Ytgikgnhpplmljaa
open Go.RowKit Go.Shelf Gw Pol
/-- A slice of one byte in a new block. -/
def OneIs (B y : Nat) : Value → World → Prop := fun v w => ∃ b, v = .slice (some ⟨b, 0, none⟩) 1 1 ∧ B ≤ b ∧ (World.cell? w ⟨b, 0, none⟩) = some (.int .u8 (y : Int))
theorem OneIs.mono (B y : Nat) : Gt.Mono (OneIs B y) := by
  rintro v w w' ⟨b, h1, h2, h3⟩ hg
  exact ⟨b, h1, h2, (Below.cell hg (p := ⟨b, 0, none⟩) (cell_lt h3)).trans h3⟩
theorem OneIs.by {B y : Nat} {v : Value} {w w' : World} {row : Option Nat} (h : OneIs B y v w) (hg : w.grownBy w' row) (hr : ∀ k, row = some k → k < B) : OneIs B y v w' := by
  obtain ⟨b, h1, h2, h3⟩ := h
  exact ⟨b, h1, h2, (World.cell?_of_block (w := w) (a := ⟨b, 0, none⟩) (hg.block b (cell_lt h3) (fun e => by have := hr b e.symm; omega))).trans h3⟩
theorem OneIs.sl {B y : Nat} {v : Value} {w : World} (h : OneIs B y v w) (hy : y < 256) : ∃ b, v = .slice (some ⟨b, 0, none⟩) 1 1 ∧ Sl w w.heap.size (some ⟨b, 0, none⟩) [y] := by
  obtain ⟨b, h1, h2, h3⟩ := h
  refine ⟨b, h1, fun i x hx => ?_⟩
  match i, hx with
  | 0, hx => simp at hx; subst hx; exact ⟨hy, b, 0, rfl, cell_lt h3, h3⟩
/-- What was appended: the row, and where it lies. -/
def ApIs (base B n : Nat) (A : Option Addr) (l : List Nat) : Value → World → Prop := fun v w => ∃ A2 c2, v = .slice A2 n c2 ∧ Gw.Own w base 5 A2 c2 l ∧ ∀ b o, A2 = some ⟨b, o, none⟩ → B ≤ b ∨ ∃ o', A = some ⟨b, o', none⟩
theorem ApIs.mono (base B n : Nat) (A : Option Addr) (l : List Nat) : Gt.Mono (ApIs base B n A l) := by
  rintro v w w' ⟨A2, c2, h1, h2, h3⟩ hg
  exact ⟨A2, c2, h1, h2.kept hg, h3⟩

end Go.Proofs.Ytgikgnhpplmljaa
end
section
/- Two rows of one's own, onto each of which something is appended, in whatever order. -/
namespace Gw
open Go Go.RowKit Go.Shelf
theorem own_by {w w' : World} {base c : Nat} {e : TypeId} {A : Option Addr} {l : List Nat} {row : Option Nat} (h : Own w base e A c l) (hg : w.grownBy w' row) (hne : ∀ b o, A = some ⟨b, o, none⟩ → row ≠ some b) : Own w' base e A c l := by
  refine ⟨⟨h.1.1, ?_⟩, h.2⟩
  rcases h.1.2 with h0 | ⟨g, cap, cur, hv, hb, hgb, h0⟩
  · exact .inl h0
  · refine .inr ⟨g, cap, cur, hv, hb, (hg.block g (Array.getElem?_eq_some_iff.1 hgb).1 (fun e => ?_)).trans hgb, h0⟩
    injection hv with h1
    exact hne g 0 h1 e.symm
theorem own_blk {w : World} {base c n b : Nat} {e : TypeId} {A : Option Addr} {l : List Nat} (h : Own w base e A c l) : (Value.slice A n c).ownBlock = some b ↔ ∃ o, A = some ⟨b, o, none⟩ := by
  constructor
  · intro k; exact ⟨0, h.at0 k⟩
  · rintro ⟨o, rfl⟩; simp [Value.ownBlock]
theorem AB.rowA {base c c' : Nat} {e : TypeId} {W : World} {A A' : Option Addr} {l l' : List Nat} (h : AB base e W A c l A' c' l') {n : Nat} (r : Nat) (hr : (Value.slice A n c).ownBlock = some r) : r < W.heap.size ∧ ∀ o, A' ≠ some ⟨r, o, none⟩ :=
  ⟨(ownB h.a hr).2, fun o e => h.dis r n n hr (by rw [e]; simp [Value.ownBlock])⟩
theorem AB.rowA' {base c c' : Nat} {e : TypeId} {W : World} {A A' : Option Addr} {l l' : List Nat} (h : AB base e W A c l A' c' l') (b o : Nat) (hA : A = some ⟨b, o, none⟩) : b < W.heap.size ∧ ∀ o', A' ≠ some ⟨b, o', none⟩ :=
  h.rowA (n := 0) b (by rw [hA]; simp [Value.ownBlock])
end Gw
namespace Go.Proofs.Ytgikgnhpplmljaa
open Go.RowKit Go.Shelf Gw Pol
theorem ApIs.by {base B n : Nat} {A : Option Addr} {l : List Nat} {v : Value} {w w' : World} {row : Option Nat} (h : ApIs base B n A l v w) (hg : w.grownBy w' row) (hr : ∀ r, row = some r → r < B ∧ ∀ o, A ≠ some ⟨r, o, none⟩) : ApIs base B n A l v w' := by
  obtain ⟨A2, c2, h1, h2, h3⟩ := h
  refine ⟨A2, c2, h1, own_by h2 hg fun b o e k => ?_, h3⟩
  obtain ⟨h4, h5⟩ := hr b k
  rcases h3 b o e with h6 | ⟨o', h6⟩
  · omega
  · exact h5 o' h6
theorem ap_dis {base B n n2 : Nat} {A A' A2 : Option Addr} {c2 base2 : Nat} {e2 : TypeId} {l l2 : List Nat} {u : Value} {w w' : World} (hloc : ∀ b o, A2 = some ⟨b, o, none⟩ → w.heap.size ≤ b ∨ ∃ o', A = some ⟨b, o', none⟩) (hA : ∀ b o, A = some ⟨b, o, none⟩ → b < B ∧ ∀ o', A' ≠ some ⟨b, o', none⟩)
    (hown : Gw.Own w' base2 e2 A2 c2 l2) (hu : ApIs base B n A' l u w) (b : Nat) (h1 : (Value.slice A2 n2 c2).ownBlock = some b) : u.ownBlock ≠ some b := by
  intro h2
  obtain ⟨A4, c4, rfl, ho4, hl4⟩ := hu
  obtain ⟨o, hA2⟩ := (own_blk hown).1 h1
  obtain ⟨o4, hA4⟩ := (own_blk ho4).1 h2
  have hlt : b < w.heap.size := by rw [hA4] at ho4; exact ho4.lt.2
  rcases hloc b o hA2 with h3 | ⟨o', h3⟩
  · omega
  · obtain ⟨h4, h5⟩ := hA b o' h3
    rcases hl4 b o4 hA4 with h6 | ⟨o'', h6⟩
    · omega
    · exact h5 o'' h6
end Go.Proofs.Ytgikgnhpplmljaa
end
section
/- What the definition's own Find (package shamrockref11) does: each column's polynomial, and who has something else; or nothing. -/
namespace Go.Proofs.Ytgikgnhpplmljaa
open Go.RowKit Go.Shelf Gw Pol
theorem bool_info : (Try.prog.info? 4).map (fun i => (i.zero, i.size, i.bytes)) = some (some (.bool false), 1, 1) := by kernel_rfl
def FdO (w3 : World) (n t k e C : Nat) (z : List Int) (R : Nat) (l P : Nat → List Nat) (v i : Value) (wr : World) : Prop :=
  ∃ (q : Nat) (wb : World) (pa : Nat → Option Addr) (cp : Nat → Nat), q ≤ C ∧ i = .int .i64 (q : Int) ∧ (∀ c, c < q → Agc t k e z R l c (P c)) ∧ wb.heap.size = w3.heap.size + 1 ∧ GrowL wb wr 36 5 v q pa cp P ∧ Gw.Row wr w3.heap.size n (fun h => .bool (badB z R l P q h)) ∧ Below w3.heap.size w3 wr
def FdJ (g n : Nat) (z : List Int) (R : Nat) (l P : Nat → List Nat) (q : Nat) (W : List Nat) (wS : World) (i : Value) (wr : World) : Prop :=
  ∃ j : Nat, j ≤ W.length ∧ i = .int .i64 (j : Int) ∧ Gw.Row wr g n (fun h => .bool (badW z R l P q (W.take j) h)) ∧ Gw.Kt g (g + 1) wS wr
def FdH (wX : World) (B n : Nat) (z : List Int) (R : Nat) (l P : Nat → List Nat) (C : Nat) (v i : Value) (wr : World) : Prop :=
  ∃ (h : Nat) (A : Option Addr) (c : Nat), h ≤ n ∧ v = .slice A (wrongL h z R l P C).length c ∧ i = .int .i64 (h : Int) ∧ OwnJ wr B 3 A c (wrongL h z R l P C) ∧ Below wX.heap.size wX wr
set_option maxRecDepth 100000 in
set_option maxHeartbeats 3000000 in
theorem rfind_any (n t k e R C : Nat) (Q : Int) (hn : n ≤ 254) (ht : 1 ≤ t) (hk : 1 ≤ k) (htk : t + k ≤ 255) (he : e ≤ 255) (A A' : Option Addr) (cA cR N : Nat) (z : List Int) (hN : N = z.length) (pa0 : Nat → Option Addr) (cp0 : Nat → Nat) (l : Nat → List Nat) (w : World) (hI : InZ w w.heap.size A cA z) (hM : MIn w w.heap.size A' cR R pa0 cp0 l) (hNb : N ≤ 20) (hRb : R ≤ 17592186043904) (hCb : C ≤ 4096) :
    Calls Try.prog 12 #[pv (n : Int) (t : Int) (k : Int) (e : Int) Q, .int .i64 (C : Int), .slice A N cA, .slice A' R cR] w (FdAns n t k e C z R l w) := by
  obtain ⟨i0, hi0, hz0, hz1, hz2⟩ := info_parts pint_info
  obtain ⟨i1, hj0, hj1, hj2, hj3⟩ := info_parts srow_info
  obtain ⟨P, hP⟩ := agc_pick t k e z R l
  obtain ⟨w1, hw1⟩ : ∃ w1, w1 = w.alloc (.cells #[.int .i64 (n : Int), .int .i64 (t : Int), .int .i64 (k : Int), .int .i64 (e : Int), .int .i64 Q] 23) := ⟨_, rfl⟩
  have hb1 : Below w.heap.size w w1 := by rw [hw1]; exact (Below.refl _ w).alloc (Nat.le_refl _) _
  have HPB : Hid (Pbx w1 w.heap.size n t k e Q) := Lib.hid (by rw [hw1]; exact Pbx.new w _ _ _ _ _ _)
  have HB1 := Lib.hid hb1
  have HN := Lib.hid hN
  have HI := Lib.hid hI
  have HMI := Lib.hid hM
  have HP := Lib.hid hP
  have HBB := Lib.hid (show ∀ i, i < R → BB (l i) from fun i hi => hM.bb hi)
  have HEN := Lib.hid (renough_any n t k e R Q htk he (C : Int) A A' cA cR N z hN pa0 cp0 l w1 ((hI.below hb1).more hb1.size) ((hM.below hb1).more hb1.size) (by omega) hRb)
  have hmk := run_make_row' (P := Try.prog) 45 4 (.bool false) 1 Try.underlying45 bool_info rfl .i64 .i64 n (by omega) (by omega)
  have hcapA := hI.cap
  have hcapR := hM.cap
  obtain ⟨D, hD⟩ : ∃ D, t + k = D + 1 := ⟨t + k - 1, by omega⟩
  obtain ⟨s, hs⟩ : ∃ s, s = t + k := ⟨_, rfl⟩
  have f1 : (t : Int) + (k : Int) = (s : Int) := by omega
  have f2 : (s : Int) - 1 = (D : Int) := by omega
  obtain ⟨D1, hD1⟩ : ∃ D1, D1 = D + 1 := ⟨_, rfl⟩
  obtain ⟨m0, hm0⟩ : ∃ m, m = D1 + e := ⟨_, rfl⟩
  have f3 : (D : Int) + 1 = (D1 : Int) := by omega
  have f4 : (D1 : Int) + (e : Int) = (m0 : Int) := by omega
  have HD := Lib.hid hD
  have hDb : D ≤ 254 := by omega
  have HM0 := Lib.hid (show m0 = D + 1 + e by omega)
  obtain ⟨c0, c1, c2, c3, c4⟩ := HPB.out
  rw [hw1] at c0 c1 c2 c3 c4
  clear hb1 hN hI hM hP hD hs hD1 hm0
  go_enter Try.func12, Try.ntmps12
  go_wp2_with fail
  rw [← hw1]
  refine HEN.out.mono ?_
  rintro en w2 ⟨b, rfl, hiff, hb2⟩
  have HB2 := Lib.hid (HB1.out.trans (hb2.mono HB1.out.size))
  have HP2 := Lib.hid (HPB.out.below hb2 HPB.out.lt)
  clear c0 c1 c2 c3 c4 hb2 hw1 HEN
  cases b with
  | false =>
    have HF := Lib.hid (show Fno n t k e (C : Int) z R l from .inl fun h => by have := hiff.2 h; cases this)
    clear hiff
    go_wp2
    go_ret3
    exact ⟨.inr ⟨HF.out, _, _, _, _, rfl⟩, HB2.out⟩
  | true =>
    have HENO := Lib.hid (hiff.1 rfl)
    have hNR : N = R := by rw [HN.out]; exact HENO.out.len
    clear hiff
    subst hNR
    have HXL := Lib.hid (show (xsL z).length = N by rw [xsL_len, ← HN.out])
    have HXS := Lib.hid (rxs_any A cA N z HN.out w2 ((HI.out.below HB2.out).more HB2.out.size) (fun x hx => by have := HENO.out.inn x hx; omega) (by omega))
    go_wp2_with fail
    refine HXS.out.mono ?_
    rintro en w3 ⟨A3, c3, rfl, ho3, hb3⟩
    have HB3 := Lib.hid (HB2.out.trans (hb3.mono HB2.out.size))
    have HP3 := Lib.hid (HP2.out.below hb3 HP2.out.lt)
    have HX3 := Lib.hid ho3.inn
    have hs3 := HP3.out.lt
    obtain ⟨w4, hw4⟩ : ∃ w4, w4 = w3.alloc (.cells (madeCells #[.bool false] n) 4) := ⟨_, rfl⟩
    have hs4 : w4.heap.size = w3.heap.size + 1 := by rw [hw4]; simp
    have HR4 : Hid (Gw.Row w4 w3.heap.size n (fun h => .bool (badB z N l P 0 h))) := Lib.hid (by rw [hw4]; exact (mrow w3 (.bool false) 4 n).congr (fun h _ => rfl))
    have HB4 : Hid (Below w3.heap.size w3 w4) := Lib.hid (by rw [hw4]; exact (Below.refl _ _).alloc (Nat.le_refl _) _)
    have HP4 := Lib.hid (HP3.out.below HB4.out hs3)
    obtain ⟨c0, _, _, _, _⟩ := HP3.out
    obtain ⟨_, c1, c2, _, _⟩ := HP4.out
    rw [hw4] at c1 c2
    clear hb3 ho3 HXS
    go_wp2
    rw [← hw4]
    clear c0 c1 c2 hw4 hmk
    go_loopw [12, 15] (FdO w3 n t k e C z N l P) (fun _ i _ => C - (intOf i).toNat)
    case atStart => exact ⟨0, w4, fun _ => none, fun _ => 0, Nat.zero_le _, rfl, fun c h => absurd h (by omega), hs4, GrowL.start _ _ _ _, HR4.out, HB4.out⟩
    case round =>
      obtain ⟨q, wb, pa, cp, hq, rfl, hagq, hwb, hG, hRow, hbel⟩ := hrel
      have hgs := hG.bel.size
      have hbs := hbel.size
      obtain ⟨Av, cv, rfl, hcv, hcv0⟩ := hG.shape
      have HG := Lib.hid hG
      have HROW := Lib.hid hRow
      have HAGQ := Lib.hid hagq
      have HBEL := Lib.hid hbel
      have HPR := Lib.hid (HP3.out.below hbel hs3)
      clear hG hRow hagq hbel
      by_cases hlt : q < C
      · have HCL := Lib.hid (rcolumn_any A' cR N q pa0 cp0 l wr ((HMI.out.below (HB3.out.trans (HBEL.out.mono HB3.out.size))).more (Nat.le_trans HB3.out.size hbs)) (fun i hi => by have := HENO.out.rows i hi; omega) (by omega))
        have z3 := HPR.out.c3
        go_wp2_with fail
        refine HCL.out.mono ?_
        rintro en w5 ⟨A4, c4, rfl, ho4, hb5⟩
        have HB5r := Lib.hid hb5
        have HB53 := Lib.hid (HBEL.out.trans (hb5.mono hbs))
        have HB5w := Lib.hid (HB3.out.trans (HB53.out.mono HB3.out.size))
        have hs5 := hb5.size
        have HP5 := Lib.hid (HPR.out.below hb5 HPR.out.lt)
        have HMANY := Lib.hid HENO.out.many
        obtain ⟨u, hu⟩ : ∃ u, u = N - e := ⟨_, rfl⟩
        have heN : e ≤ N := by have := HENO.out.many; have := HN.out; omega
        have f5 : (N : Int) - (e : Int) = (u : Int) := by omega
        have HU := Lib.hid hu
        clear z3 hb5 HCL hu
        have z3 := HP5.out.c3
        by_cases hgt : m0 < u
        · have hgi : (m0 : Int) < (u : Int) := by omega
          obtain ⟨m, hm⟩ : ∃ m, m = u := ⟨_, rfl⟩
          have HM1 := Lib.hid (show D + 1 + e ≤ m by rw [hm, ← HM0.out]; omega)
          have HM2 := Lib.hid (show N - e ≤ m by rw [hm, HU.out]; exact Nat.le_refl _)
          have HM3 := Lib.hid (show m = D + 1 + e ∨ m = N - e from .inr (by rw [hm, HU.out]))
          subst hm
          have HAG := Lib.hid (ragreed' A3 A4 c3 c4 N N (xsL z) (colR l N q) D m w5 HXL.out.symm (colR_len l N q).symm ((HX3.out.below HB53.out).more HB53.out.size) ho4.inn (by rw [HXL.out, colR_len]) (by rw [HXL.out]; omega) (by omega))
          have HO4 := Lib.hid ho4
          clear ho4
          go_wp2_with fail
          refine HAG.out.mono ?_
          rintro en w6 ⟨⟨r, Ar, cr, hr, rfl, hge, hor⟩ | ⟨rfl, hall⟩, hb6⟩
          rotate_left
          · have HF := Lib.hid (show Fno n t k e (C : Int) z N l from .inr ⟨q, by omega, fun p => agc_no HENO.out HBB.out HD.out HM3.out hall p⟩)
            have HB6 := Lib.hid (HB5w.out.trans (hb6.mono HB5w.out.size))
            clear hb6 hall HAG
            go_wp2
            go_ret3
            exact ⟨.inr ⟨HF.out, _, _, _, _, rfl⟩, HB6.out⟩
          have hag := agc_yes HENO.out hn (by omega) HD.out htk he hr HM1.out HM2.out hge
          have hpe := HP.out q _ hag
          have hdeg := hag.deg
          rw [hpe] at hor hag hdeg ⊢
          obtain ⟨nl, hnl⟩ : ∃ nl, nl = (P q).length := ⟨_, rfl⟩
          rw [← hnl]
          have hnlb : nl ≤ 256 := by omega
          have HNL := Lib.hid hnl
          have HOR := Lib.hid hor
          have HAGC := Lib.hid hag
          have HB6 := Lib.hid hb6
          have hs6 := hb6.size
          have HB563 := Lib.hid (HB5r.out.trans (hb6.mono HB5r.out.size))
          have HGW := Lib.hid ((HG.out.more HB5r.out).own2 hb6)
          clear hor hag hr hge hpe hdeg hb6 HAG hnl
          go_wp2_with (first
            | (at_builtin; refine wpList_append_own _ rfl (.tmp 76) (.tmp 78) 25 rfl wb.heap.size 36 i1 (.slice none 0 0) 1 24 Try.underlying25 hj0 hj1 hj2 hj3 rfl (by decide) _ q (rvl pa cp P q) rfl (HGW.out.alloc _) ⟨w6.heap.size, 0, none⟩ 1 1 [.slice Ar nl cr] rfl rfl (fun j u hj => by
                  match j, hj with
                  | 0, hj => simp at hj; subst hj; exact cell_new w6 _ _) (fun u hu => by simp at hu; subst hu; rfl) (by simp only [maxLen]; omega) (by omega) (by rw [World.size_alloc]; have := HB563.out.size; have := HG.out.bel.size; omega) ?_; intro v' w7 hown7 hgr7 _)
            | fail)
          rw [HNL.out] at hown7
          have HS := Lib.hid (HG.out.step (by decide) HB563.out (HOR.out.base HB5r.out.size) _ hown7 hgr7)
          have hlo : ∀ r, (Value.slice Av q cv).ownBlock = some r → wb.heap.size ≤ r ∧ r < wr.heap.size := fun r hr => by
            rcases HG.out.own.2 with ⟨hv, _⟩ | ⟨g', cap, cur, hv, hb, hg', _⟩
            · injection hv with h1; subst h1; cases hr
            · injection hv with h1
              subst h1
              simp [Value.ownBlock] at hr
              subst hr
              exact ⟨hb, (Array.getElem?_eq_some_iff.1 hg').1⟩
          have hwb6 : wb.heap.size ≤ w6.heap.size := by omega
          have hB67 : Below wb.heap.size w6 w7 := ((Below.refl _ w6).alloc hwb6 _).grown hgr7 (by rw [World.size_alloc]; omega) (fun r hr => (hlo r hr).1)
          have hs7 := hB67.size
          have HR7 := Lib.hid ((HROW.out.below HB563.out (show w3.heap.size < wr.heap.size by omega)).below hB67 (by omega))
          have HB73 := Lib.hid ((HBEL.out.trans (HB563.out.mono hbs)).trans (hB67.mono (by omega)))
          have HY7 := Lib.hid (own_by ((HO4.out.kept HB6.out).alloc _) hgr7 (fun b' o' e' hr => by have h1 := (hlo b' hr).2; have h2 := HO4.out; rw [e'] at h2; have := h2.lt.1; omega))
          have HQ7 := Lib.hid (show Gw.Own w7 wb.heap.size 5 Ar cr (P q) by simpa using HS.out.row q (by omega))
          clear hown7 hgr7 hlo hB67 HGW
          obtain ⟨W, hW⟩ : ∃ W, W = wrTo (P q) (xsL z) (colR l N q) (xsL z).length := ⟨_, rfl⟩
          obtain ⟨nw, hnw⟩ : ∃ nw, nw = W.length := ⟨_, rfl⟩
          have hWlt : ∀ x ∈ W, x < N := fun x hx => by rw [hW] at hx; have := wrTo_lt _ _ _ _ x hx; rw [HXL.out] at this; exact this
          have hnwb : nw ≤ 20 := by rw [hnw, hW]; have := wrTo_agr (P q) (xsL z) (colR l N q) (xsL z).length; rw [HXL.out] at this ⊢; omega
          have hwr := rwrong' Ar A3 A4 cr c3 c4 nl N N nw (P q) (xsL z) (colR l N q) w7 HNL.out HXL.out.symm (colR_len l N q).symm (by rw [hnw, hW]) HQ7.out.inn ((HX3.out.below HB73.out).more HB73.out.size) HY7.out.inn (by rw [HXL.out, colR_len]; exact Nat.le_refl _) (by rw [← HNL.out]; omega) (by rw [HXL.out]; omega)
          rw [← hW] at hwr
          have HWR := Lib.hid hwr
          have HW := Lib.hid hW
          have HNW := Lib.hid hnw
          clear hwr hW hnw
          go_wp2_with fail
          refine HWR.out.mono ?_
          rintro en w8 ⟨A5, c5, rfl, hoj, hb8⟩
          have hs8 := hb8.size
          have HS8 := Lib.hid (HS.out.more hb8)
          have HR8 := Lib.hid (HR7.out.below hb8 (by omega))
          have HB83 := Lib.hid (HB73.out.trans (hb8.mono (by omega)))
          have HOJ := Lib.hid hoj
          have hcap5 := hoj.inn.cap
          rw [← HNW.out] at hcap5
          clear hoj hb8 HWR
          go_wp2
          go_loopw [21] (FdJ w3.heap.size n z N l P q W w8) (fun i _ => nw - (intOf i).toNat)
          case atStart => exact ⟨0, Nat.zero_le _, rfl, HR8.out.congr (fun h _ => by rw [List.take_zero, badW_nil]), Gw.Kt.refl _ _ _⟩
          case round =>
            obtain ⟨j, hj, rfl, hRow, hkt⟩ := hrel
            rw [← HNW.out] at hj
            by_cases hjw : j < nw
            · have hjW : j < W.length := by rw [← HNW.out]; exact hjw
              obtain ⟨x, hx⟩ : ∃ x, W[j]? = some x := ⟨W[j], List.getElem?_eq_getElem hjW⟩
              obtain ⟨g5, hA5, hg5, hcell5⟩ := HOJ.out.at_ hx
              subst hA5
              have hk5 := hkt.cell hcell5 (by omega)
              have hxN : x < N := hWlt x (List.mem_of_getElem? hx)
              have hxz : x < z.length := by rw [← HN.out]; exact hxN
              have hin := HENO.out.inn z[x] (List.getElem_mem hxz)
              obtain ⟨_, b6, off6, hA6, hb6', hcell6⟩ := HI.out.sl x z[x] (List.getElem?_eq_getElem hxz)
              subst hA6
              obtain ⟨g2, hg2⟩ : ∃ g2 : Nat, z[x] = (g2 : Int) := ⟨z[x].toNat, by omega⟩
              rw [hg2] at hcell6 hin
              have hg2n : g2 < n := by omega
              have hb6w : b6 < w3.heap.size := by have := HB3.out.size; omega
              have hk6 := hkt.cell ((HB83.out.cell (p := ⟨b6, off6 + x, none⟩) hb6w).trans ((HB3.out.cell (p := ⟨b6, off6 + x, none⟩) hb6').trans hcell6)) (by omega)
              have hgd : z.getD x 0 = (g2 : Int) := by simp [hxz, hg2]
              have hk7 := (hRow g2 hg2n).1
              have hf7 := (hRow g2 hg2n).2
              have hxi : (x : Int) < (N : Int) := by omega
              have hgi2 : (g2 : Int) < (n : Int) := by omega
              have hji : (j : Int) < (nw : Int) := by omega
              have HFIN := Lib.hid (show Gw.Row (wr.setCell ⟨w3.heap.size, g2, none⟩ (.bool true)) w3.heap.size n (fun h => .bool (badW z N l P q (W.take (j + 1)) h)) ∧ Gw.Kt w3.heap.size (w3.heap.size + 1) w8 (wr.setCell ⟨w3.heap.size, g2, none⟩ (.bool true)) from
                ⟨(hRow.set hg2n (.bool true)).congr (fun h _ => by rw [← take_snoc hx, badW_one hgd]; split <;> rfl), hkt.set (p := ⟨w3.heap.size, g2, none⟩) ⟨Nat.le_refl _, Nat.lt_succ_self _⟩ _⟩)
              clear hRow hkt hx hcell5 hcell6 hin hgd hg2
              go_wp2
              go_roundw
              case rel => exact ⟨j + 1, by rw [← HNW.out]; omega, by go_num, HFIN.out.1, HFIN.out.2⟩
              case measure => simp [intOf]; omega
            · obtain rfl : j = nw := by omega
              have hRow' : Gw.Row wr w3.heap.size n (fun h => .bool (badB z N l P (q + 1) h)) := hRow.congr (fun h _ => by rw [HNW.out, List.take_length, HW.out, badW_all HN.out.symm])
              obtain ⟨wb2, hwb2, hG2⟩ := HS8.out.kt hkt (by omega)
              have HFIN := Lib.hid (show _ ∧ _ ∧ _ from ⟨hRow', hG2, HB83.out.trans (hkt.below (by omega))⟩)
              clear hRow hRow' hkt hG2
              go_wp2
              go_roundw
              case rel => exact ⟨q + 1, wb2, _, _, by omega, by go_num, fun c hc => by
                by_cases e' : c = q
                · subst e'; exact HAGC.out
                · exact HAGQ.out c (by omega), by rw [hwb2, hwb], HFIN.out.2.1, HFIN.out.1, HFIN.out.2.2⟩
              case measure => simp [intOf]; omega
        · have hgi : ¬ ((m0 : Int) < (u : Int)) := by omega
          obtain ⟨m, hm⟩ : ∃ m, m = m0 := ⟨_, rfl⟩
          have HM1 := Lib.hid (show D + 1 + e ≤ m by rw [hm, ← HM0.out]; exact Nat.le_refl _)
          have HM2 := Lib.hid (show N - e ≤ m by rw [hm]; have := HU.out; omega)
          have HM3 := Lib.hid (show m = D + 1 + e ∨ m = N - e from .inl (by rw [hm, HM0.out]))
          subst hm
          have HAG := Lib.hid (ragreed' A3 A4 c3 c4 N N (xsL z) (colR l N q) D m w5 HXL.out.symm (colR_len l N q).symm ((HX3.out.below HB53.out).more HB53.out.size) ho4.inn (by rw [HXL.out, colR_len]) (by rw [HXL.out]; omega) (by omega))
          have HO4 := Lib.hid ho4
          clear ho4
          go_wp2_with fail
          refine HAG.out.mono ?_
          rintro en w6 ⟨⟨r, Ar, cr, hr, rfl, hge, hor⟩ | ⟨rfl, hall⟩, hb6⟩
          rotate_left
          · have HF := Lib.hid (show Fno n t k e (C : Int) z N l from .inr ⟨q, by omega, fun p => agc_no HENO.out HBB.out HD.out HM3.out hall p⟩)
            have HB6 := Lib.hid (HB5w.out.trans (hb6.mono HB5w.out.size))
            clear hb6 hall HAG
            go_wp2
            go_ret3
            exact ⟨.inr ⟨HF.out, _, _, _, _, rfl⟩, HB6.out⟩
          have hag := agc_yes HENO.out hn (by omega) HD.out htk he hr HM1.out HM2.out hge
          have hpe := HP.out q _ hag
          have hdeg := hag.deg
          rw [hpe] at hor hag hdeg ⊢
          obtain ⟨nl, hnl⟩ : ∃ nl, nl = (P q).length := ⟨_, rfl⟩
          rw [← hnl]
          have hnlb : nl ≤ 256 := by omega
          have HNL := Lib.hid hnl
          have HOR := Lib.hid hor
          have HAGC := Lib.hid hag
          have HB6 := Lib.hid hb6
          have hs6 := hb6.size
          have HB563 := Lib.hid (HB5r.out.trans (hb6.mono HB5r.out.size))
          have HGW := Lib.hid ((HG.out.more HB5r.out).own2 hb6)
          clear hor hag hr hge hpe hdeg hb6 HAG hnl
          go_wp2_with (first
            | (at_builtin; refine wpList_append_own _ rfl (.tmp 76) (.tmp 78) 25 rfl wb.heap.size 36 i1 (.slice none 0 0) 1 24 Try.underlying25 hj0 hj1 hj2 hj3 rfl (by decide) _ q (rvl pa cp P q) rfl (HGW.out.alloc _) ⟨w6.heap.size, 0, none⟩ 1 1 [.slice Ar nl cr] rfl rfl (fun j u hj => by
                  match j, hj with
                  | 0, hj => simp at hj; subst hj; exact cell_new w6 _ _) (fun u hu => by simp at hu; subst hu; rfl) (by simp only [maxLen]; omega) (by omega) (by rw [World.size_alloc]; have := HB563.out.size; have := HG.out.bel.size; omega) ?_; intro v' w7 hown7 hgr7 _)
            | fail)
          rw [HNL.out] at hown7
          have HS := Lib.hid (HG.out.step (by decide) HB563.out (HOR.out.base HB5r.out.size) _ hown7 hgr7)
          have hlo : ∀ r, (Value.slice Av q cv).ownBlock = some r → wb.heap.size ≤ r ∧ r < wr.heap.size := fun r hr => by
            rcases HG.out.own.2 with ⟨hv, _⟩ | ⟨g', cap, cur, hv, hb, hg', _⟩
            · injection hv with h1; subst h1; cases hr
            · injection hv with h1
              subst h1
              simp [Value.ownBlock] at hr
              subst hr
              exact ⟨hb, (Array.getElem?_eq_some_iff.1 hg').1⟩
          have hwb6 : wb.heap.size ≤ w6.heap.size := by omega
          have hB67 : Below wb.heap.size w6 w7 := ((Below.refl _ w6).alloc hwb6 _).grown hgr7 (by rw [World.size_alloc]; omega) (fun r hr => (hlo r hr).1)
          have hs7 := hB67.size
          have HR7 := Lib.hid ((HROW.out.below HB563.out (show w3.heap.size < wr.heap.size by omega)).below hB67 (by omega))
          have HB73 := Lib.hid ((HBEL.out.trans (HB563.out.mono hbs)).trans (hB67.mono (by omega)))
          have HY7 := Lib.hid (own_by ((HO4.out.kept HB6.out).alloc _) hgr7 (fun b' o' e' hr => by have h1 := (hlo b' hr).2; have h2 := HO4.out; rw [e'] at h2; have := h2.lt.1; omega))
          have HQ7 := Lib.hid (show Gw.Own w7 wb.heap.size 5 Ar cr (P q) by simpa using HS.out.row q (by omega))
          clear hown7 hgr7 hlo hB67 HGW
          obtain ⟨W, hW⟩ : ∃ W, W = wrTo (P q) (xsL z) (colR l N q) (xsL z).length := ⟨_, rfl⟩
          obtain ⟨nw, hnw⟩ : ∃ nw, nw = W.length := ⟨_, rfl⟩
          have hWlt : ∀ x ∈ W, x < N := fun x hx => by rw [hW] at hx; have := wrTo_lt _ _ _ _ x hx; rw [HXL.out] at this; exact this
          have hnwb : nw ≤ 20 := by rw [hnw, hW]; have := wrTo_agr (P q) (xsL z) (colR l N q) (xsL z).length; rw [HXL.out] at this ⊢; omega
          have hwr := rwrong' Ar A3 A4 cr c3 c4 nl N N nw (P q) (xsL z) (colR l N q) w7 HNL.out HXL.out.symm (colR_len l N q).symm (by rw [hnw, hW]) HQ7.out.inn ((HX3.out.below HB73.out).more HB73.out.size) HY7.out.inn (by rw [HXL.out, colR_len]; exact Nat.le_refl _) (by rw [← HNL.out]; omega) (by rw [HXL.out]; omega)
          rw [← hW] at hwr
          have HWR := Lib.hid hwr
          have HW := Lib.hid hW
          have HNW := Lib.hid hnw
          clear hwr hW hnw
          go_wp2_with fail
          refine HWR.out.mono ?_
          rintro en w8 ⟨A5, c5, rfl, hoj, hb8⟩
          have hs8 := hb8.size
          have HS8 := Lib.hid (HS.out.more hb8)
          have HR8 := Lib.hid (HR7.out.below hb8 (by omega))
          have HB83 := Lib.hid (HB73.out.trans (hb8.mono (by omega)))
          have HOJ := Lib.hid hoj
          have hcap5 := hoj.inn.cap
          rw [← HNW.out] at hcap5
          clear hoj hb8 HWR
          go_wp2
          go_loopw [21] (FdJ w3.heap.size n z N l P q W w8) (fun i _ => nw - (intOf i).toNat)
          case atStart => exact ⟨0, Nat.zero_le _, rfl, HR8.out.congr (fun h _ => by rw [List.take_zero, badW_nil]), Gw.Kt.refl _ _ _⟩
          case round =>
            obtain ⟨j, hj, rfl, hRow, hkt⟩ := hrel
            rw [← HNW.out] at hj
            by_cases hjw : j < nw
            · have hjW : j < W.length := by rw [← HNW.out]; exact hjw
              obtain ⟨x, hx⟩ : ∃ x, W[j]? = some x := ⟨W[j], List.getElem?_eq_getElem hjW⟩
              obtain ⟨g5, hA5, hg5, hcell5⟩ := HOJ.out.at_ hx
              subst hA5
              have hk5 := hkt.cell hcell5 (by omega)
              have hxN : x < N := hWlt x (List.mem_of_getElem? hx)
              have hxz : x < z.length := by rw [← HN.out]; exact hxN
              have hin := HENO.out.inn z[x] (List.getElem_mem hxz)
              obtain ⟨_, b6, off6, hA6, hb6', hcell6⟩ := HI.out.sl x z[x] (List.getElem?_eq_getElem hxz)
              subst hA6
              obtain ⟨g2, hg2⟩ : ∃ g2 : Nat, z[x] = (g2 : Int) := ⟨z[x].toNat, by omega⟩
              rw [hg2] at hcell6 hin
              have hg2n : g2 < n := by omega
              have hb6w : b6 < w3.heap.size := by have := HB3.out.size; omega
              have hk6 := hkt.cell ((HB83.out.cell (p := ⟨b6, off6 + x, none⟩) hb6w).trans ((HB3.out.cell (p := ⟨b6, off6 + x, none⟩) hb6').trans hcell6)) (by omega)
              have hgd : z.getD x 0 = (g2 : Int) := by simp [hxz, hg2]
              have hk7 := (hRow g2 hg2n).1
              have hf7 := (hRow g2 hg2n).2
              have hxi : (x : Int) < (N : Int) := by omega
              have hgi2 : (g2 : Int) < (n : Int) := by omega
              have hji : (j : Int) < (nw : Int) := by omega
              have HFIN := Lib.hid (show Gw.Row (wr.setCell ⟨w3.heap.size, g2, none⟩ (.bool true)) w3.heap.size n (fun h => .bool (badW z N l P q (W.take (j + 1)) h)) ∧ Gw.Kt w3.heap.size (w3.heap.size + 1) w8 (wr.setCell ⟨w3.heap.size, g2, none⟩ (.bool true)) from
                ⟨(hRow.set hg2n (.bool true)).congr (fun h _ => by rw [← take_snoc hx, badW_one hgd]; split <;> rfl), hkt.set (p := ⟨w3.heap.size, g2, none⟩) ⟨Nat.le_refl _, Nat.lt_succ_self _⟩ _⟩)
              clear hRow hkt hx hcell5 hcell6 hin hgd hg2
              go_wp2
              go_roundw
              case rel => exact ⟨j + 1, by rw [← HNW.out]; omega, by go_num, HFIN.out.1, HFIN.out.2⟩
              case measure => simp [intOf]; omega
            · obtain rfl : j = nw := by omega
              have hRow' : Gw.Row wr w3.heap.size n (fun h => .bool (badB z N l P (q + 1) h)) := hRow.congr (fun h _ => by rw [HNW.out, List.take_length, HW.out, badW_all HN.out.symm])
              obtain ⟨wb2, hwb2, hG2⟩ := HS8.out.kt hkt (by omega)
              have HFIN := Lib.hid (show _ ∧ _ ∧ _ from ⟨hRow', hG2, HB83.out.trans (hkt.below (by omega))⟩)
              clear hRow hRow' hkt hG2
              go_wp2
              go_roundw
              case rel => exact ⟨q + 1, wb2, _, _, by omega, by go_num, fun c hc => by
                by_cases e' : c = q
                · subst e'; exact HAGC.out
                · exact HAGQ.out c (by omega), by rw [hwb2, hwb], HFIN.out.2.1, HFIN.out.1, HFIN.out.2.2⟩
              case measure => simp [intOf]; omega
      · obtain rfl : q = C := by omega
        have hgX : w3.heap.size < wr.heap.size := by omega
        have hPlt := HPR.out.lt
        obtain ⟨wX, rfl⟩ : ∃ wX, wX = wr := ⟨_, rfl⟩
        go_wp2
        go_loopw [22, 23] (FdH wX wX.heap.size n z N l P q) (fun _ i _ => n - (intOf i).toNat)
        case atStart => exact ⟨0, none, 0, Nat.zero_le _, rfl, rfl, OwnJ.nil _ _ _, Below.refl _ _⟩
        case round =>
          obtain ⟨h, Ah, ch, hh, rfl, rfl, hoj, hbx⟩ := hrel
          have hsx := hbx.size
          have y0 := (HPR.out.below hbx hPlt).c0
          have hwl := wrongL_len h z N l P q
          by_cases hlt3 : h < n
          · have k1 := ((HROW.out.below hbx hgX) h hlt3).1
            have hhi : (h : Int) < (n : Int) := by omega
            have HJ := Lib.hid hoj
            have HBX := Lib.hid hbx
            clear hoj hbx
            cases hbd : badB z N l P q h with
            | true =>
              rw [hbd] at k1
              have HW1 := Lib.hid (show wrongL (h + 1) z N l P q = wrongL h z N l P q ++ [h] by rw [wrongL_succ, if_pos hbd])
              clear hbd
              go_wp2_with (at_builtin; refine wpList_append_own _ rfl (.tmp 109) (.tmp 111) 24 rfl wX.heap.size 3 i0 (.int .i64 0) 1 8 Try.underlying24 hi0 hz0 hz1 hz2 rfl (by decide) (.slice Ah (wrongL h z N l P q).length ch) (wrongL h z N l P q).length (intv (wrongL h z N l P q)) rfl (HJ.out.alloc _) ⟨wr.heap.size, 0, none⟩ 1 1 [.int .i64 (h : Int)] rfl rfl (fun j u hj => by
                  match j, hj with
                  | 0, hj => simp at hj; subst hj; exact cell_new wr _ _) (fun u hu => by simp at hu; subst hu; rfl) (by simp only [maxLen]; omega) (by omega) (by rw [World.size_alloc]; omega) ?_; intro v' w6 hown6 hgr6 _)
              obtain ⟨A9, c9, rfl, hO9⟩ := OwnJ.mk' (L := wrongL h z N l P q ++ [h]) (by rw [intv_app]; exact hown6)
              have hB9 : Below wX.heap.size wX w6 := (HBX.out.trans (((Below.refl _ wr).alloc (Nat.le_refl _) _).mono hsx)).grown hgr6 (by rw [World.size_alloc]; omega) (fun b hb => (HJ.out.block hb).1)
              have H9 := Lib.hid hO9
              clear hO9 hown6 hgr6
              go_roundw
              case rel => exact ⟨h + 1, A9, c9, by omega, by rw [HW1.out], by go_num, by rw [HW1.out]; exact H9.out, hB9⟩
              case measure => simp [intOf]; omega
            | false =>
              rw [hbd] at k1
              have HW1 := Lib.hid (show wrongL (h + 1) z N l P q = wrongL h z N l P q by rw [wrongL_succ, if_neg (by rw [hbd]; simp)])
              clear hbd
              go_wp2
              go_roundw
              case rel => exact ⟨h + 1, Ah, ch, by omega, by rw [HW1.out], by go_num, by rw [HW1.out]; exact HJ.out, HBX.out⟩
              case measure => simp [intOf]; omega
          · obtain rfl : h = n := by omega
            obtain ⟨A8, c8, hv8, hM8⟩ := (HG.out.more hbx).min
            injection hv8 with hv8 _ hv9
            subst hv8 hv9
            have HFIN := Lib.hid (show MIn wr wr.heap.size Av cv q pa cp P ∧ InJ wr Ah ch (wrongL h z N l P q) ∧ Below w.heap.size w wr from ⟨hM8, hoj.inn, (HB3.out.trans (HBEL.out.mono HB3.out.size)).trans (hbx.mono (Nat.le_trans HB3.out.size hbs))⟩)
            clear hoj hbx hM8
            go_wp2
            go_ret3
            exact ⟨.inl ⟨P, _, _, _, _, _, _, rfl, ⟨HENO.out, HAGQ.out⟩, HFIN.out.1, HFIN.out.2.1⟩, HFIN.out.2.2⟩
end Go.Proofs.Ytgikgnhpplmljaa
end
section
/- What the statements own same (package shamrocklaw11) answers of the same columns. -/
namespace Go.Proofs.Ytgikgnhpplmljaa
open Go.RowKit Go.Shelf Gw Pol
set_option maxRecDepth 100000 in
set_option maxHeartbeats 2000000 in
theorem osame (A A' : Option Addr) (c c' R : Nat) (Q Q' : Nat → Option Addr) (C C' : Nat → Nat) (l l' : Nat → List Nat) (w : World) (h : MIn w w.heap.size A c R Q C l) (h' : MIn w w.heap.size A' c' R Q' C' l') (he : ∀ i, i < R → l i = l' i) (hR : R ≤ 140737488355328) :
    Calls Try.prog 13 #[.slice A R c, .slice A' R c'] w fun e w' => e = .returned (.bool true) ∧ Below w.heap.size w w' := by
  have hcap := h.cap
  have hcap' := h'.cap
  go_enter Try.func13, Try.ntmps13
  go_wp2
  go_loopw [5] (fun i wr => ∃ j : Nat, j ≤ R ∧ i = .int .i64 (j : Int) ∧ Below w.heap.size w wr) (fun i _ => R - (intOf i).toNat)
  case atStart => exact ⟨0, Nat.zero_le _, rfl, Below.refl _ _⟩
  case round =>
    obtain ⟨j, hj, rfl, hb⟩ := hrel
    have hs := hb.size
    by_cases hlt : j < R
    · obtain ⟨b, off, hA, hbl, hc, hI⟩ := (h.below hb).rd j hlt
      obtain ⟨b', off', hA', hbl', hc', hI'⟩ := (h'.below hb).rd j hlt
      subst hA hA'
      rw [← he j hlt] at hc' hI'
      obtain ⟨q, hq⟩ : ∃ q, q = Q j := ⟨_, rfl⟩
      obtain ⟨cq, hcq⟩ : ∃ q, q = C j := ⟨_, rfl⟩
      obtain ⟨q', hq'⟩ : ∃ q, q = Q' j := ⟨_, rfl⟩
      obtain ⟨cq', hcq'⟩ : ∃ q, q = C' j := ⟨_, rfl⟩
      obtain ⟨m, hm⟩ : ∃ m, m = (l j).length := ⟨_, rfl⟩
      obtain ⟨σ, hσ⟩ : ∃ σ, σ = str (l j) := ⟨_, rfl⟩
      rw [← hm, ← hq, ← hcq] at hc
      rw [← hm, ← hq', ← hcq'] at hc'
      rw [← hq, ← hcq] at hI
      rw [← hq', ← hcq'] at hI'
      have HM := Lib.hid hm
      have HSG := Lib.hid hσ
      have HI := Lib.hid (hI.more hs)
      have HI' := Lib.hid (hI'.more hs)
      have HC := Lib.hid hc
      have HC' := Lib.hid hc'
      have HBL := Lib.hid (show b < wr.heap.size by omega)
      have HBL' := Lib.hid (show b' < wr.heap.size by omega)
      have HB := Lib.hid hb
      clear hm hσ hI hI' hc hc' hb hq hcq hq' hcq' hbl hbl' h h' he
      go_wp2
      rename_i K hK
      refine Gt.regionA [Gt.Is (.slice (some ⟨b, off, none⟩) R c), Gt.Is (.int .i64 (j : Int)), Gt.Is (.pointer (some ⟨b, off + j, none⟩)), Gt.Is (.slice q m cq), Gt.Is (.string σ), Gt.Is (.slice (some ⟨b', off', none⟩) R c'), Gt.Is (.int .i64 (j : Int)), Gt.Is (.pointer (some ⟨b', off' + j, none⟩)), Gt.Is (.slice q' m cq'), Gt.Is (.string σ), Gt.Is (.bool false)] 28
        [⟨[], [0], none⟩, ⟨[], [5], none⟩, ⟨[(0, 17), (1, 18)], [], none⟩, ⟨[(2, 19)], [], none⟩, ⟨[(3, 20)], [], none⟩, ⟨[], [1], none⟩, ⟨[], [5], none⟩, ⟨[(5, 22), (6, 23)], [], none⟩, ⟨[(7, 24)], [], none⟩, ⟨[(8, 25)], [], none⟩, ⟨[(4, 21), (9, 26)], [], none⟩]
        [(0, 17), (1, 18), (2, 19), (3, 20), (4, 21), (5, 22), (6, 23), (7, 24), (8, 25), (9, 26), (10, 27)] (by kernel_rfl) (by kernel_rfl) (by kernel_rfl) (by kernel_rfl) ?_ ?_ ?_
      · simp only [Gt.Monos]
        repeat' apply And.intro
        all_goals (first | exact trivial | exact Gt.Is.mono _)
      · simp only [Gt.Obs]
        repeat' apply And.intro
        all_goals try exact trivial
        all_goals (
          intro a w5 hg
          have hg' : Below wr.heap.size wr w5 := hg
          simp only [Gt.Pre, Gt.Kept, Gt.Guarded, Gt.tys, List.getD_cons_zero, List.getD_cons_succ, Gt.Is, Nat.zero_add, Nat.reduceAdd]
          intros
          try (refine ⟨fun _ => ?_, fun hne => absurd (by assumption) hne⟩))
        all_goals (first
          | exact Gt.ok_move rfl (by assumption)
          | exact Gt.ok_assign rfl (by assumption)
          | exact Gt.ok_pick rfl (by assumption) (by rw [if_pos rfl]; assumption)
          | (have k5 := conv_sl (P := Try.prog) (HI.out.below hg').sl Try.underlying36 Try.underlying5 Try.underlying9 cq
             rw [← HM.out, ← HSG.out] at k5
             exact Gt.ok_convert rfl (by assumption) k5 rfl)
          | (have k5 := conv_sl (P := Try.prog) (HI'.out.below hg').sl Try.underlying36 Try.underlying5 Try.underlying9 cq'
             rw [← HM.out, ← HSG.out] at k5
             exact Gt.ok_convert rfl (by assumption) k5 rfl)
          | (refine Gt.ok_run ?_ rfl
             have k5 := (hg'.cell (p := ⟨b, off + j, none⟩) HBL.out).trans HC.out
             have k6 := (hg'.cell (p := ⟨b', off' + j, none⟩) HBL'.out).trans HC'.out
             simp only [execOp, *]
             go_simp
             done)
          | (refine Gt.ok_run ?_ rfl
             simp only [execOp, *]
             go_simp
             done))
      · intro a w5 hg
        have hg' : Below wr.heap.size wr w5 := hg
        simp only [Gt.Pre, Gt.tys, List.getD_cons_zero, List.getD_cons_succ, Gt.Is]
        intro h0 h1 h2 h3 h4 h5 h6 h7 h8 h9 h10
        show K _ _
        refine hK _ _ ?_
        simp only [Gt.puts, List.foldl_cons, List.foldl_nil, h0, h1, h2, h3, h4, h5, h6, h7, h8, h9, h10]
        simp only [Act.put, List.setIfInBounds_toArray, List.set_cons_zero, List.set_cons_succ]
        have HB5 := Lib.hid (HB.out.trans (hg'.mono HB.out.size))
        clear hg' hg h0 h1 h2 h3 h4 h5 h6 h7 h8 h9 h10 hK
        go_wp2
        go_roundw
        case rel => exact ⟨j + 1, by omega, by go_num, HB5.out⟩
        case measure => simp [intOf]; omega
    · obtain rfl : R = j := by omega
      have HB := Lib.hid hb
      clear hb
      go_wp2
      go_ret
      exact ⟨rfl, HB.out⟩
end Go.Proofs.Ytgikgnhpplmljaa
end
section
/- same and SameInts of two that have no parts. -/
namespace Go.Proofs.Ytgikgnhpplmljaa
open Go.RowKit Go.Shelf
theorem osame0 (A A' : Option Addr) (c c' : Nat) (w : World) : Calls Try.prog 13 #[.slice A 0 c, .slice A' 0 c'] w fun e w' => e = .returned (.bool true) ∧ w' = w := by
  go_enter Try.func13, Try.ntmps13
  go_wp2
  go_loopw [5] (fun i wr => i = .int .i64 0 ∧ wr = w) (fun _ _ => 0)
  case atStart => exact ⟨rfl, rfl⟩
  case round =>
    obtain ⟨rfl, rfl⟩ := hrel
    go_wp2
    go_ret
    exact ⟨rfl, rfl⟩
theorem osint0 (A A' : Option Addr) (c c' : Nat) (w : World) : Calls Try.prog 14 #[.slice A 0 c, .slice A' 0 c'] w fun e w' => e = .returned (.bool true) ∧ w' = w := by
  go_enter Try.func14, Try.ntmps14
  go_wp2
  go_loopw [5] (fun i wr => i = .int .i64 0 ∧ wr = w) (fun _ _ => 0)
  case atStart => exact ⟨rfl, rfl⟩
  case round =>
    obtain ⟨rfl, rfl⟩ := hrel
    go_wp2
    go_ret
    exact ⟨rfl, rfl⟩
end Go.Proofs.Ytgikgnhpplmljaa
end
section
/- What the definition's own Secret and At (package shamrockref11) do: the document of polynomials; a holder's share of them. -/
namespace Pol
open Go.Proofs.Ytgikgnhpplmljaa
theorem docL_succ (n k x : Nat) (P : Nat → List Nat) : docL n k (x + 1) P = docL n k x P ++ [ev (n + 1 + x % k) (P (x / k))] := by simp [docL, List.range_succ]
end Pol
namespace Go.Proofs.Ytgikgnhpplmljaa
open Go.RowKit Go.Shelf Gw Pol
def SeO (w1 : World) (n k size C : Nat) (P : Nat → List Nat) (v i : Value) (wr : World) : Prop :=
  ∃ (c co_ : Nat) (A : Option Addr), c ≤ C ∧ v = .slice A (min size (c * k)) co_ ∧ i = .int .i64 (c : Int) ∧ Gw.Own wr w1.heap.size 5 A co_ (docL n k (min size (c * k)) P) ∧ Below w1.heap.size w1 wr
def SeI (w1 : World) (n k size c : Nat) (P : Nat → List Nat) (v i : Value) (wr : World) : Prop :=
  ∃ (i' co_ : Nat) (A : Option Addr), i' ≤ k ∧ c * k + i' ≤ size ∧ v = .slice A (c * k + i') co_ ∧ i = .int .i64 (i' : Int) ∧ Gw.Own wr w1.heap.size 5 A co_ (docL n k (c * k + i') P) ∧ Below w1.heap.size w1 wr
set_option maxRecDepth 100000 in
set_option maxHeartbeats 4000000 in
theorem rsecret_any (n k size C : Nat) (T E R : Int) (hk : 0 < k) (hnk : n + k ≤ 255) (A : Option Addr) (cA : Nat) (pa : Nat → Option Addr) (cp : Nat → Nat) (P : Nat → List Nat) (w : World) (hM : MIn w w.heap.size A cA C pa cp P) (hC : C = Sp.cnt size k) (hs : size ≤ 1073741824) (hCb : C ≤ 1073741824) (hP : ∀ c, c < C → (P c).length ≤ 1073741824) :
    Calls Try.prog 19 #[pv (n : Int) T (k : Int) E R, .int .i64 (size : Int), .slice A C cA] w fun e w' => ∃ A2 c2, e = .returned (.slice A2 size c2) ∧ Gw.Own w' w.heap.size 5 A2 c2 (docL n k size P) ∧ Below w.heap.size w w' := by
  obtain ⟨i0, hi0, hz0, hz1, hz2⟩ := info_parts byte_info
  obtain ⟨w1, hw1⟩ : ∃ w1, w1 = w.alloc (.cells #[.int .i64 (n : Int), .int .i64 T, .int .i64 (k : Int), .int .i64 E, .int .i64 R] 23) := ⟨_, rfl⟩
  have hb1 : Below w.heap.size w w1 := by rw [hw1]; exact (Below.refl _ w).alloc (Nat.le_refl _) _
  have HPB : Hid (Pbx w1 w.heap.size n T k E R) := Lib.hid (by rw [hw1]; exact Pbx.new w _ _ _ _ _ _)
  have HB1 := Lib.hid hb1
  have HMI := Lib.hid ((hM.below hb1).more hb1.size)
  have hcap := hM.cap
  have HC := Lib.hid hC
  have HPL := Lib.hid HPB.out.lt
  have HEND := Lib.hid (show min size (C * k) = size by
    rcases Nat.lt_or_ge (C * k) size with h | h
    · have := (Sp.cnt_lt (n := size) (k := k) (i := C) hk).2 h; omega
    · omega)
  have HCS := Lib.hid (show ∀ c, c < C → c * k < size from fun c h => (Sp.cnt_lt hk).1 (by rw [← HC.out]; exact h))
  clear hb1 hM hC
  go_enter Try.func19, Try.ntmps19
  go_wp2
  rw [← hw1]
  clear hw1
  go_loopw [7, 8] (SeO w1 n k size C P) (fun _ i _ => C - (intOf i).toNat)
  case atStart => exact ⟨0, 0, none, Nat.zero_le _, by rw [Nat.zero_mul, Nat.min_zero], rfl, by rw [Nat.zero_mul, Nat.min_zero]; exact Own.none_ _ _ _, Below.refl _ _⟩
  case round =>
    obtain ⟨c, co_, Ao, hc, rfl, rfl, hown, hbel⟩ := hrel
    by_cases hlt : c < C
    · have hcs := HCS.out c hlt
      rw [Nat.min_eq_right (by omega)] at hown
      rw [Nat.min_eq_right (Nat.le_of_lt hcs)]
      have HO0 := Lib.hid hown
      have HB0 := Lib.hid hbel
      have hPc := hP c hlt
      clear hown hbel
      go_wp2
      go_loopw [7, 9] (SeI w1 n k size c P) (fun _ i _ => k - (intOf i).toNat)
      case atStart => exact ⟨0, co_, Ao, Nat.zero_le _, by omega, rfl, rfl, HO0.out, HB0.out⟩
      case round =>
        clear HO0 HB0
        obtain ⟨i, co_, Ao, hi, hix, rfl, rfl, hown, hbel⟩ := hrel
        have hcell0 := (HPB.out.below hbel HPL.out).c0
        have hcell2 := (HPB.out.below hbel HPL.out).c2
        obtain ⟨x, hx⟩ : ∃ x, x = c * k + i := ⟨_, rfl⟩
        rw [← hx] at hown hix ⊢
        have HXE := Lib.hid hx
        by_cases hik : i < k
        · have hiki : (i : Int) < (k : Int) := by omega
          by_cases hxs : x < size
          · have hxsi : (x : Int) < (size : Int) := by omega
            obtain ⟨b, off, rfl, hb, hcell, hrow⟩ := (HMI.out.below hbel).rd c hlt
            obtain ⟨nl, hnl⟩ : ∃ nl, nl = (P c).length := ⟨_, rfl⟩
            rw [← hnl] at hcell hPc
            obtain ⟨n1, hn1⟩ : ∃ n1, n1 = n + 1 := ⟨_, rfl⟩
            obtain ⟨y, hy⟩ : ∃ y, y = n1 + i := ⟨_, rfl⟩
            have hyb : y < 256 := by omega
            have e1 : (n : Int) + 1 = (n1 : Int) := by omega
            have e2 : (n1 : Int) + (i : Int) = (y : Int) := by omega
            have e4 : IntKind.i64.wrap (n1 : Int) = (n1 : Int) := by rw [IntKind.wrap_i64]; omega
            have e5 : IntKind.i64.wrap (y : Int) = (y : Int) := by rw [IntKind.wrap_i64]; omega
            have e3 : IntKind.u8.wrap (y : Int) = (y : Int) := by rw [IntKind.wrap_u8]; omega
            obtain ⟨v, hv⟩ : ∃ v, v = ev y (P c) := ⟨_, rfl⟩
            have hvb : v < 256 := by rw [hv]; exact ev_lt hrow.bb _
            have hmod : x % k = i := by rw [hx, Nat.mul_comm, Nat.mul_add_mod, Nat.mod_eq_of_lt hik]
            have hdiv : x / k = c := by rw [hx, Nat.mul_comm, Nat.mul_add_div hk, Nat.div_eq_of_lt hik, Nat.add_zero]
            have HT := Lib.hid (show docL n k (x + 1) P = docL n k x P ++ [v] by rw [docL_succ, hmod, hdiv, hv, hy, hn1])
            have hci : (c : Int) < (C : Int) := by omega
            have HNL := Lib.hid hnl
            have HV := Lib.hid hv.symm
            have HROW := Lib.hid hrow
            have HOWN := Lib.hid hown
            have HBEL := Lib.hid hbel
            have HC0 := Lib.hid hcell0
            have HCB := Lib.hid hcell
            have HLT0 := Lib.hid (cell_lt hcell0)
            have HLTB := Lib.hid (cell_lt hcell)
            have HXL := Lib.hid (docL_len n k x P).symm
            have hbs := hbel.size
            clear hx hn1 hy hv hnl hmod hdiv hrow hown hbel hb
            go_wp2
            refine Gt.regionB [Gt.Is (.slice Ao x co_), Gt.Is (.slice (some ⟨b, off, none⟩) C cA), Gt.Is (.int .i64 (c : Int)), Gt.Is (.pointer (some ⟨b, off + c, none⟩)), Gt.Is (.slice (pa c) nl (cp c)), Gt.Is (.pointer (some ⟨w.heap.size, 0, none⟩)), Gt.Is (.int .i64 (n : Int)), Gt.Is (.int .i64 (n1 : Int)), Gt.Is (.int .i64 (i : Int)), Gt.Is (.int .i64 (y : Int)), Gt.Is (.int .u8 (y : Int)), Gt.Is (.int .u8 (v : Int)), OIs wr.heap.size 1 [v]] 43 13
              [⟨[], [7], none⟩, ⟨[], [2], none⟩, ⟨[], [8], none⟩, ⟨[(1, 29), (2, 30)], [], none⟩, ⟨[(3, 31)], [], none⟩, ⟨[], [3], none⟩, ⟨[(5, 33)], [], none⟩, ⟨[(6, 34)], [], none⟩, ⟨[], [9], none⟩, ⟨[(7, 35), (8, 36)], [], none⟩, ⟨[(9, 37)], [], none⟩, ⟨[(4, 32), (10, 38)], [], none⟩, ⟨[(11, 39)], [], none⟩, ⟨[(0, 28), (12, 40)], [], none⟩, ⟨[(13, 41)], [], none⟩]
              [(0, 28), (1, 29), (2, 30), (3, 31), (4, 32), (5, 33), (6, 34), (7, 35), (8, 36), (9, 37), (10, 38), (11, 39), (12, 40)] (by kernel_rfl) (by kernel_rfl) (by kernel_rfl) (by kernel_rfl) (by kernel_rfl) ?_ ?_ ?_
            · simp only [Gt.Monos]
              repeat' apply And.intro
              all_goals (first | exact trivial | exact Gt.Is.mono _ | exact OIs.mono _ _ _)
            · simp only [List.take_succ_cons, List.take_zero, Gt.Obs]
              repeat' apply And.intro
              all_goals try exact trivial
              all_goals (
                intro a w5 hg
                have hg' : Below wr.heap.size wr w5 := hg
                simp only [Gt.Pre, Gt.Kept, Gt.Guarded, Gt.tys, List.getD_cons_zero, List.getD_cons_succ, Gt.Is, Nat.zero_add, Nat.reduceAdd]
                intros
                try (refine ⟨fun _ => ?_, fun hne => absurd (by assumption) hne⟩))
              all_goals (first
                | exact Gt.ok_move rfl (by assumption)
                | exact Gt.ok_assign rfl (by assumption)
                | exact Gt.ok_pick rfl (by assumption) (by rw [if_pos rfl]; assumption)
                | (refine Gt.ok_call (f := 43) rfl #[.slice (pa c) nl (cp c), .int .u8 (y : Int)] (by kernel_rfl) (by simp [*]) ((reval' (pa c) (cp c) nl (P c) y hyb w5 _ HNL.out ((HROW.out.more hbs).below hg') (by rw [← HNL.out]; omega)).mono ?_)
                   rintro e w6 ⟨rfl, rfl⟩
                   exact ⟨_, rfl, Below.refl _ _, by show Value.int .u8 (ev y (P c) : Int) = Value.int .u8 (v : Int); rw [HV.out]⟩)
                | (refine Gt.ok_runW (v := .slice (some ⟨w5.heap.size, 0, none⟩) 1 1) (w' := w5.alloc (.cells #[.int .u8 (v : Int)] 5)) ?_ ((Below.refl _ _).alloc (Nat.le_refl _) _) ⟨_, _, rfl, own_lit w5 5 [v] _ rfl (fun y hy => by simp at hy; omega) (by simp) _ hg'.size _ rfl⟩
                   simp only [execOp, List.map_toArray, List.map_cons, List.map_nil, *]
                   go_simp
                   done)
                | (have k5 := (hg'.cell (p := ⟨w.heap.size, 0, none⟩) HLT0.out).trans HC0.out
                   have k6 := (hg'.cell (p := ⟨b, off + c, none⟩) HLTB.out).trans HCB.out
                   refine Gt.ok_run ?_ rfl
                   simp only [execOp, *]
                   go_simp
                   done))
            · intro a w5 hg
              have hg' : Below wr.heap.size wr w5 := hg
              simp only [Gt.Pre, Gt.tys, List.getD_cons_zero, List.getD_cons_succ, Gt.Is]
              intro h0 h1 h2 h3 h4 h5 h6 h7 h8 h9 h10 h11 h12
              obtain ⟨A12, c12, h12, hO12⟩ := h12
              simp only [Gt.puts, List.foldl_cons, List.foldl_nil, h0, h1, h2, h3, h4, h5, h6, h7, h8, h9, h10, h11, h12]
              simp only [Act.put, List.setIfInBounds_toArray, List.set_cons_zero, List.set_cons_succ]
              simp only [List.drop_succ_cons, List.drop_zero]
              have HO12 := Lib.hid hO12.inn
              have HOW := Lib.hid (HOWN.out.kept hg')
              have HB5 := Lib.hid (HBEL.out.trans (hg'.mono HBEL.out.size))
              clear h0 h1 h2 h3 h4 h5 h6 h7 h8 h9 h10 h11 h12 hO12
              clear hg' hg
              go_wp2_with (first | (at_builtin; refine wpList_app rfl (.tmp 28) (.tmp 40) 36 rfl w1.heap.size 5 i0 _ Try.underlying36 hi0 hz0 hz1 hz2 rfl Ao x co_ (docL n k x P) rfl HXL.out HOW.out w5.heap.size A12 1 c12 [v] rfl rfl HO12.out.none_ HO12.out.sl (by rw [docL_len]; simp; omega) (by have := HB5.out.size; omega) ?_; intro A2 cN w2 hown2 hgr2; rw [List.length_append, docL_len]) | fail)
              have HB2 := Lib.hid (below_app0 HB5.out HB5.out.size HOW.out hgr2)
              rw [← HT.out] at hown2
              have HO2 := Lib.hid hown2
              clear hown2 hgr2
              go_roundw
              case rel => exact ⟨i + 1, cN, A2, by omega, by have := HXE.out; omega, by rw [show c * k + (i + 1) = x + 1 by have := HXE.out; omega], by go_num, by rw [show c * k + (i + 1) = x + 1 by have := HXE.out; omega]; exact HO2.out, HB2.out⟩
              case measure => simp [intOf]; omega
          · obtain rfl : x = size := by omega
            have hxsi : ¬ ((x : Int) < (x : Int)) := by omega
            have HF := Lib.hid (show min x ((c + 1) * k) = x by rw [Nat.succ_mul]; omega)
            have HO := Lib.hid hown
            have HB := Lib.hid hbel
            clear hx hown hbel
            go_wp2
            go_roundw
            case rel => exact ⟨c + 1, co_, Ao, by omega, by rw [HF.out], by go_num, by rw [HF.out]; exact HO.out, HB.out⟩
            case measure => simp [intOf]; omega
        · obtain rfl : i = k := by omega
          have hiki : ¬ ((i : Int) < (i : Int)) := by omega
          have HF := Lib.hid (show min size ((c + 1) * i) = x by rw [Nat.succ_mul]; omega)
          have HO := Lib.hid hown
          have HB := Lib.hid hbel
          clear hx hown hbel
          go_wp2
          go_roundw
          case rel => exact ⟨c + 1, co_, Ao, by omega, by rw [HF.out], by go_num, by rw [HF.out]; exact HO.out, HB.out⟩
          case measure => simp [intOf]; omega
    · obtain rfl : c = C := by omega
      rw [HEND.out] at hown ⊢
      have HO := Lib.hid (hown.base HB1.out.size)
      have HB := Lib.hid (HB1.out.trans (hbel.mono HB1.out.size))
      clear hown hbel
      go_wp2
      go_ret
      exact ⟨_, _, rfl, HO.out, HB.out⟩
end Go.Proofs.Ytgikgnhpplmljaa
end
section
/- What the definition's own At (package shamrockref11) does: a holder's share of polynomials. -/
namespace Go.Proofs.Ytgikgnhpplmljaa
open Go.RowKit Go.Shelf Gw Pol
def AtRel (w : World) (P : Nat → List Nat) (C g : Nat) (v i : Value) (wr : World) : Prop :=
  ∃ (q cq : Nat) (A : Option Addr), q ≤ C ∧ v = .slice A q cq ∧ i = .int .i64 (q : Int) ∧ Gw.Own wr w.heap.size 5 A cq (shRow P q g) ∧ Below w.heap.size w wr
set_option maxRecDepth 100000 in
set_option maxHeartbeats 1000000 in
theorem rat_any (A : Option Addr) (cA C g : Nat) (pa : Nat → Option Addr) (cp : Nat → Nat) (P : Nat → List Nat) (w : World) (hM : MIn w w.heap.size A cA C pa cp P) (hg : g + 1 < 256) (hCb : C ≤ 1073741824) (hP : ∀ c, c < C → (P c).length ≤ 1073741824) :
    Calls Try.prog 18 #[.slice A C cA, .int .i64 (g : Int)] w fun e w' => ∃ A2 c2, e = .returned (.slice A2 C c2) ∧ Gw.Own w' w.heap.size 5 A2 c2 (shRow P C g) ∧ Below w.heap.size w w' := by
  obtain ⟨i0, hi0, hz0, hz1, hz2⟩ := info_parts byte_info
  have hcap := hM.cap
  obtain ⟨y, hy⟩ : ∃ y, y = g + 1 := ⟨_, rfl⟩
  have e1 : (g : Int) + 1 = (y : Int) := by omega
  have e3 : IntKind.i64.wrap (y : Int) = (y : Int) := by rw [IntKind.wrap_i64]; omega
  have e2 : IntKind.u8.wrap (y : Int) = (y : Int) := by rw [IntKind.wrap_u8]; omega
  have hyb : y < 256 := by omega
  have HY := Lib.hid hy
  clear hy
  go_enter Try.func18, Try.ntmps18
  go_wp2
  go_loopw [5, 6] (AtRel w P C g) (fun _ i _ => C - (intOf i).toNat)
  case atStart => exact ⟨0, 0, none, Nat.zero_le _, rfl, rfl, Own.none_ _ _ _, Below.refl _ _⟩
  case round =>
    obtain ⟨q, cq, Aq, hq, rfl, rfl, hown, hbel⟩ := hrel
    by_cases hlt : q < C
    · obtain ⟨b, off, rfl, hb, hcell, hrow⟩ := (hM.below hbel).rd q hlt
      obtain ⟨nl, hnl⟩ : ∃ nl, nl = (P q).length := ⟨_, rfl⟩
      have hPq := hP q hlt
      rw [← hnl] at hcell hPq
      have hqi : (q : Int) < (C : Int) := by omega
      have hbs := hbel.size
      obtain ⟨v, hv⟩ : ∃ v, v = ev y (P q) := ⟨_, rfl⟩
      have hvb : v < 256 := by rw [hv]; exact ev_lt hrow.bb _
      have HE := Lib.hid (reval' (pa q) (cp q) nl (P q) y hyb wr _ hnl (hrow.more hbs) (by omega))
      rw [← hv] at HE
      have HT := Lib.hid (show shRow P (q + 1) g = shRow P q g ++ [v] by rw [shRow_succ, hv, HY.out])
      have HLE := Lib.hid (shRow_len P q g)
      have HOW := Lib.hid (hown.alloc (.cells #[.int .u8 (v : Int)] 5))
      have HSL := Lib.hid (Sl.one wr 5 v hvb)
      have HOWN := Lib.hid hown
      have HBEL := Lib.hid hbel
      clear hown hrow hnl hv hbel
      go_wp2_with fail
      refine HE.out.mono ?_
      rintro e _ ⟨rfl, rfl⟩
      go_wp2_with (first | (at_builtin; refine wpList_app rfl (.tmp 13) (.tmp 22) 36 rfl w.heap.size 5 i0 _ Try.underlying36 hi0 hz0 hz1 hz2 rfl Aq q cq (shRow P q g) rfl HLE.out.symm HOW.out (wr.heap.size + 1) (some ⟨wr.heap.size, 0, none⟩) 1 1 [v] rfl rfl (fun h => by cases h) HSL.out (by rw [HLE.out]; simp; omega) (by rw [World.size_alloc]; omega) ?_; intro A2 cN w2 hown2 hgr2; rw [List.length_append, HLE.out]) | fail)
      have HB2 := Lib.hid (below_app HBEL.out HBEL.out.size HOWN.out hgr2)
      rw [← HT.out] at hown2
      have HO2 := Lib.hid hown2
      clear hown2 hgr2
      go_roundw
      case rel => exact ⟨q + 1, cN, A2, by omega, rfl, by go_num, HO2.out, HB2.out⟩
      case measure => simp [intOf]; omega
    · obtain rfl : q = C := by omega
      have HO := Lib.hid hown
      clear hown
      go_wp2
      go_ret
      exact ⟨_, _, rfl, HO.out, hbel⟩
end Go.Proofs.Ytgikgnhpplmljaa
end
section
/- For OpenCorrects and OpenNever, in numbers: whom skip leaves, what turn makes of shares, who is turned, holder by holder. -/
namespace Pol
open Go.Proofs.Ytgikgnhpplmljaa
/-- Holder h is not skipped. -/
def kpB (sk : List Bool) (h : Nat) : Bool := !(sk.getD h false)
/-- Those of the first q holders that are not skipped. -/
def frL (sk : List Bool) (q : Nat) : List Nat := (List.range q).filter (kpB sk)
/-- A share, turned. -/
def tuL (S : Nat → List Nat) (R : Nat) (l : Nat → List Nat) (h : Nat) : List Nat := if h < R then xorL (S h) (l h) else S h
theorem frL_yes {sk : List Bool} {q : Nat} (h : kpB sk q = true) : frL sk (q + 1) = frL sk q ++ [q] := by simp [frL, List.range_succ, List.filter_append, h]
theorem frL_no {sk : List Bool} {q : Nat} (h : kpB sk q = false) : frL sk (q + 1) = frL sk q := by simp [frL, List.range_succ, List.filter_append, h]
theorem frL_len (sk : List Bool) (q : Nat) : (frL sk q).length ≤ q := by
  have := List.length_filter_le (kpB sk) (List.range q)
  rwa [List.length_range] at this
theorem frL_at {sk : List Bool} {q : Nat} (h : kpB sk q = true) : ∀ m, q + 1 ≤ m → (frL sk q).length < (frL sk m).length ∧ (frL sk m).getD (frL sk q).length 0 = q := by
  intro m hm
  induction m with
  | zero => omega
  | succ m ih =>
    by_cases e : m = q
    · subst e
      rw [frL_yes h]
      exact ⟨by simp, by simp⟩
    · obtain ⟨h1, h2⟩ := ih (by omega)
      cases hk : kpB sk m with
      | true =>
        rw [frL_yes hk]
        refine ⟨by simp; omega, ?_⟩
        rw [List.getD_eq_getElem?_getD, List.getElem?_append_left h1, ← List.getD_eq_getElem?_getD]
        exact h2
      | false => rw [frL_no hk]; exact ⟨h1, h2⟩
theorem rOf_at {sk : List Bool} {q n : Nat} {T : Nat → List Nat} (h : kpB sk q = true) (hq : q < n) : rOf (frL sk n) T (frL sk q).length = T q := by
  unfold rOf; rw [(frL_at h n (by omega)).2]
theorem tuL_len {S : Nat → List Nat} {R : Nat} {l : Nat → List Nat} (h : Nat) : (tuL S R l h).length = (S h).length := by
  unfold tuL; split
  · rw [xorL_len]
  · rfl
theorem tuL_bb {S : Nat → List Nat} {R : Nat} {l : Nat → List Nat} {h : Nat} (hS : BB (S h)) (hl : ∀ i, i < R → BB (l i)) : BB (tuL S R l h) := by
  unfold tuL; split
  · exact xorL_bb hS (hl h ‹_›)
  · exact hS
theorem few_of {n t k C R : Nat} {d rnd : List Nat} {sk : List Bool} {l : Nat → List Nat} (hl : ∀ i, i < R → BB (l i)) : Few n t k d rnd C (frL sk n) (tuL (shRow (polL n k t d rnd) C) R l) :=
  ⟨List.Pairwise.filter _ List.nodup_range, fun h hh => List.mem_range.1 (List.mem_filter.1 hh).1, fun h _ => by rw [tuL_len, shRow_len],
   fun h _ => tuL_bb (shRow_bb (fun _ _ => tr_bb (add_bb (timL_bb _ _ _ _) (thr_bb _ _))) h) hl⟩
/-- Who of the first q holders is turned. -/
def wtL (f : Nat → Bool) (sk : List Bool) (q : Nat) : List Nat := (frL sk q).filter f
theorem wtL_yes {f : Nat → Bool} {sk : List Bool} {q : Nat} (h : kpB sk q = true) (hf : f q = true) : wtL f sk (q + 1) = wtL f sk q ++ [q] := by simp [wtL, frL_yes h, List.filter_append, hf]
theorem wtL_same {f : Nat → Bool} {sk : List Bool} {q : Nat} (h : kpB sk q = true) (hf : f q = false) : wtL f sk (q + 1) = wtL f sk q := by simp [wtL, frL_yes h, List.filter_append, hf]
theorem wtL_no {f : Nat → Bool} {sk : List Bool} {q : Nat} (h : kpB sk q = false) : wtL f sk (q + 1) = wtL f sk q := by simp [wtL, frL_no h]
theorem wtL_len (f : Nat → Bool) (sk : List Bool) (q : Nat) : (wtL f sk q).length ≤ (frL sk q).length := List.length_filter_le _ _
theorem wtL_cnt (f : Nat → Bool) (sk : List Bool) (q : Nat) : (wtL f sk q).length = (frL sk q).countP f := List.countP_eq_length_filter.symm
end Pol
end
