/- A region that leaves its order open, where each operation's value is told by a predicate of its own that later growth of the world bears: whatever order comes, each operation is looked at once. -/
import Derived.Orders
import Derived.StillTail
import Derived.Below
import Derived.BigCall
namespace Gt
open Go Go.RowKit

/-- What is asked of an operation's outcome. -/
def StepOK (P : Program) (R : World → World → Prop) (V : Value → World → Prop) (w : World) : Result Next → Prop
  | .ok (.value v) w' => R w w' ∧ V v w'
  | .ok .skip w' => R w w' ∧ V undef w'
  | .ok (.enter f args) w' => Calls P f args w' fun e w'' => ∃ v, e = .returned v ∧ R w w'' ∧ V v w''
  | _ => False
/-- Of an operation: which earlier ones' values it may know (number, slot); which slots it reads that stand as they were; its guard (slot, what is wanted). -/
structure Plan where
  ds : List (Nat × Nat)
  ks : List Nat
  gd : Option (Nat × Bool)
def preds (o : Oper) (j : Nat) : Bool := o.after.any fun e => Region.binds .any e && e.on == j
def dstB (ops : Array Oper) (j d : Nat) : Bool := match ops[j]? with | some o => o.dst == some d | none => false
def freeB (ops : Array Oper) (i k : Nat) : Bool := (List.range ops.size).all fun j => j == i || (match ops[j]? with | some o => o.dst != some k || preds o i | none => true)
def loneB (ops : Array Oper) (i : Nat) (o : Oper) : Bool := (List.range ops.size).all fun j => j == i || o.dst.isNone || (match ops[j]? with | some oj => oj.dst != o.dst | none => true)
def opB (ops : Array Oper) (n i : Nat) (o : Oper) (p : Plan) : Bool :=
  (match o.dst with | some d => decide (d < n) | none => true) && (o.after.all fun e => !Region.binds .any e || decide (e.on < i)) &&
  (p.ds.all fun x => dstB ops x.1 x.2 && preds o x.1) && (p.ks.all fun k => freeB ops i k) && loneB ops i o &&
  (match o.guard, p.gd with | none, none => true | some (g, b), some (d, b') => dstB ops g d && b == b' | _, _ => false)
def okB (ops : Array Oper) (n : Nat) (plan : List Plan) : Bool :=
  (List.range ops.size).all fun i => match ops[i]?, plan[i]? with | some o, some p => opB ops n i o p | _, _ => false
def endB (ops : Array Oper) (es : List (Nat × Nat)) (ks : List Nat) : Bool :=
  (es.all fun x => dstB ops x.1 x.2) && (ks.all fun k => (List.range ops.size).all fun j => match ops[j]? with | some o => o.dst != some k | none => true)

def Pre (T : Nat → Value → World → Prop) (a : Act) (w : World) : List (Nat × Nat) → Prop → Prop
  | [], G => G
  | x :: t, G => T x.1 (a.eval (.tmp x.2)) w → Pre T a w t G
def Kept (a a0 : Act) : List Nat → Prop → Prop
  | [], G => G
  | k :: t, G => a.eval (.tmp k) = a0.eval (.tmp k) → Kept a a0 t G
def Guarded (a : Act) (gd : Option (Nat × Bool)) (G N : Prop) : Prop :=
  match gd with
  | none => G
  | some (d, b) => (a.eval (.tmp d) = .bool b → G) ∧ (a.eval (.tmp d) ≠ .bool b → N)
def Ob (P : Program) (R : World → World → Prop) (T : Nat → Value → World → Prop) (a0 : Act) (w0 : World) (i : Nat) (o : Oper) (p : Plan) : Prop :=
  ∀ a w, R w0 w → Pre T a w p.ds (Kept a a0 p.ks (Guarded a p.gd (StepOK P R (T i) w ((execOp a.eval o).run P w)) (T i undef w)))
def Obs (P : Program) (R : World → World → Prop) (T : Nat → Value → World → Prop) (a0 : Act) (w0 : World) : Nat → List Oper → List Plan → Prop
  | i, o :: t, p :: ps => Ob P R T a0 w0 i o p ∧ Obs P R T a0 w0 (i + 1) t ps
  | _, _, _ => True

theorem Pre.out {T : Nat → Value → World → Prop} {a : Act} {w : World} {G : Prop} : ∀ {l : List (Nat × Nat)}, Pre T a w l G → (∀ x ∈ l, T x.1 (a.eval (.tmp x.2)) w) → G
  | [], h, _ => h
  | _ :: _, h, k => Pre.out (h (k _ (by simp))) fun x hx => k x (by simp [hx])
theorem Kept.out {a a0 : Act} {G : Prop} : ∀ {l : List Nat}, Kept a a0 l G → (∀ k ∈ l, a.eval (.tmp k) = a0.eval (.tmp k)) → G
  | [], h, _ => h
  | _ :: _, h, k => Kept.out (h (k _ (by simp))) fun x hx => k x (by simp [hx])

theorem dstB_spec {ops : Array Oper} {j d : Nat} (h : dstB ops j d = true) : ∃ o, ops[j]? = some o ∧ o.dst = some d := by
  unfold dstB at h
  cases ho : ops[j]? with
  | none => simp [ho] at h
  | some o => simp only [ho] at h; exact ⟨o, rfl, by simpa using h⟩
theorem preds_spec {o : Oper} {j : Nat} (h : preds o j = true) : ∃ e ∈ o.after, Region.binds .any e = true ∧ e.on = j := by
  unfold preds at h
  rw [Array.any_eq_true'] at h
  obtain ⟨e, he, h⟩ := h
  simp only [Bool.and_eq_true, beq_iff_eq] at h
  exact ⟨e, he, h.1, h.2⟩
theorem yielded_eval {ops : Array Oper} {a : Act} {g d : Nat} {b : Bool} (h : dstB ops g d = true) : (yielded ops a.tmps g == some b) = true ↔ a.eval (.tmp d) = .bool b := by
  obtain ⟨o, ho, hd⟩ := dstB_spec h
  unfold yielded
  simp only [ho, hd, Option.bind_some, Act.eval]
  cases hv : a.tmps[d]? with
  | none => simp [hv, undef]
  | some v => cases v <;> simp [hv]

section
variable {P : Program} {ops : Array Oper} {R : World → World → Prop} {T : Nat → Value → World → Prop} {a0 : Act} {w0 : World}

structure Inv (ops : Array Oper) (R : World → World → Prop) (T : Nat → Value → World → Prop) (a0 : Act) (w0 : World) (s : Array Bool) (a : Act) (w : World) : Prop where
  size : s.size = ops.size
  closed : ∀ j oj, ops[j]? = some oj → s.getD j false = true → ∀ e ∈ oj.after, Region.binds .any e = true → s.getD e.on false = true
  rel : R w0 w
  tmps : a.tmps.size = a0.tmps.size
  defers : a.defers = a0.defers
  old : ∀ k, (∀ j o, ops[j]? = some o → s.getD j false = true → o.dst ≠ some k) → a.eval (.tmp k) = a0.eval (.tmp k)
  vals : ∀ j o d, ops[j]? = some o → s.getD j false = true → o.dst = some d → T j (a.eval (.tmp d)) w

theorem okB_at {n : Nat} {plan : List Plan} (h : okB ops n plan = true) {i : Nat} {o : Oper} (ho : ops[i]? = some o) : ∃ p, plan[i]? = some p ∧ opB ops n i o p = true := by
  unfold okB at h
  rw [List.all_eq_true] at h
  have := h i (List.mem_range.2 (Array.getElem?_eq_some_iff.1 ho).1)
  rw [ho] at this
  cases hp : plan[i]? with
  | none => simp [hp] at this
  | some p => simp only [hp] at this; exact ⟨p, rfl, this⟩
theorem obs_at {t : List Oper} : ∀ {plan : List Plan} {k : Nat}, Obs P R T a0 w0 k t plan → ∀ {i : Nat} {o : Oper} {p : Plan}, t[i]? = some o → plan[i]? = some p → Ob P R T a0 w0 (k + i) o p := by
  induction t with
  | nil => intro plan k _ i o p h; simp at h
  | cons x t ih =>
    intro plan k h i o p h1 h2
    cases plan with
    | nil => simp at h2
    | cons q ps =>
      cases i with
      | zero => simp at h1 h2; subst h1 h2; exact h.1
      | succ i =>
        have := ih h.2 (i := i) (by simpa using h1) (by simpa using h2)
        rw [show k + (i + 1) = k + 1 + i from by omega]; exact this
theorem eval_put_same {a : Act} {d : Nat} {v : Value} (h : d < a.tmps.size) : (a.put (some d) v).eval (.tmp d) = v := by
  simp [Act.eval, Act.put, h]
theorem Inv.step {s : Array Bool} {a : Act} {w w' : World} {i : Nat} {o : Oper} {v : Value} {n : Nat} {p : Plan} (inv : Inv ops R T a0 w0 s a w) (ht : ∀ a b c, R a b → R b c → R a c) (hmono : ∀ i v w w', T i v w → R w w' → T i v w')
    (hn : a0.tmps.size = n) (hi : i ∈ Region.ready .any ops s) (ho : ops[i]? = some o) (hb : opB ops n i o p = true) (hw : R w w') (hv : T i v w') : Inv ops R T a0 w0 (s.setIfInBounds i true) (a.put o.dst v) w' := by
  obtain ⟨hun, oi, hoi, hall⟩ := mem_ready.1 hi
  rw [ho] at hoi
  obtain rfl : o = oi := by simpa using hoi
  have hsz : i < s.size := by rw [inv.size]; exact (Array.getElem?_eq_some_iff.1 ho).1
  simp only [opB, Bool.and_eq_true] at hb
  obtain ⟨⟨⟨⟨⟨hb1, _⟩, _⟩, _⟩, hb5⟩, _⟩ := hb
  have hset : ∀ j, (s.setIfInBounds i true).getD j false = true → j = i ∨ s.getD j false = true := fun j hj => by
    by_cases e : j = i
    · exact .inl e
    · right; rwa [getD_set_ne false (Ne.symm e)] at hj
  refine ⟨by simp [inv.size], fun j oj hj hl e he hbd => ?_, ht _ _ _ inv.rel hw, ?_, ?_, fun k hk => ?_, fun j oj d hj hl hd => ?_⟩
  · rcases hset j hl with rfl | h
    · rw [ho] at hj; obtain rfl : o = oj := by simpa using hj
      exact getD_set_true (hall e he hbd)
    · exact getD_set_true (inv.closed j oj hj h e he hbd)
  · rw [← inv.tmps]; cases o.dst <;> simp [Act.put]
  · rw [← inv.defers]; cases o.dst <;> simp [Act.put]
  · have h1 : o.dst ≠ some k := hk i o ho (by simp [hsz])
    rw [Act.eval_put fun d hd hx => h1 (by rw [hd]; injection hx with hx; rw [hx])]
    exact inv.old k fun j oj hj hl => hk j oj hj (getD_set_true hl)
  · rcases hset j hl with rfl | h
    · rw [ho] at hj; obtain rfl : o = oj := by simpa using hj
      rw [hd] at hb1 ⊢
      rw [eval_put_same (by rw [inv.tmps, hn]; simpa using hb1)]
      exact hv
    · by_cases e : j = i
      · subst e; rw [getD_both hun] at h; cases h
      · have h1 := (List.all_eq_true.1 hb5) j (List.mem_range.2 (Array.getElem?_eq_some_iff.1 hj).1)
        simp only [hj, Bool.or_eq_true, beq_iff_eq, e, false_or] at h1
        have hne : ∀ d', o.dst = some d' → Operand.tmp d ≠ .tmp d' := fun d' hd' hx => by
          injection hx with hx
          rcases h1 with h1 | h1
          · rw [hd'] at h1; cases h1
          · rw [hd', hd, hx] at h1; simp at h1
        rw [Act.eval_put fun d' hd' => hne d' hd']
        exact hmono _ _ _ _ (inv.vals j oj d hj h hd) hw

theorem done {s : Array Bool} {n : Nat} {plan : List Plan} (hB : okB ops n plan = true) (hs : s.size = ops.size) (hr : Region.ready .any ops s = []) : ∀ i, i < ops.size → s.getD i false = true := by
  intro i
  induction i using Nat.strongRecOn with
  | _ i ih =>
    intro hi
    by_cases h : s.getD i false = true
    · exact h
    · exfalso
      have ho : ops[i]? = some ops[i] := by simp [hi]
      have hun : s.getD i true = false := getD_in (by rw [hs]; exact hi) (by simpa using h)
      obtain ⟨p, _, hb⟩ := okB_at hB ho
      simp only [opB, Bool.and_eq_true] at hb
      have h2 := hb.1.1.1.1.2
      rw [Array.all_eq_true'] at h2
      have : i ∈ Region.ready .any ops s := mem_ready.2 ⟨hun, _, ho, fun e he hbd => by
        have h3 := h2 e he
        simp only [hbd, Bool.not_true, Bool.false_or, decide_eq_true_eq] at h3
        exact ih e.on h3 (by omega)⟩
      rw [hr] at this
      cases this

theorem any_of {Q : Exit → Act → World → Prop} {n : Nat} {plan : List Plan} {t : List Oper} (hB : okB t.toArray n plan = true) (hn : a0.tmps.size = n) (hr : ∀ w, R w w) (ht : ∀ a b c, R a b → R b c → R a c) (hmono : ∀ i v w w', T i v w → R w w' → T i v w')
    (hob : Obs P R T a0 w0 0 t plan) (hQ : ∀ s a w, Inv t.toArray R T a0 w0 s a w → (∀ i, i < t.toArray.size → s.getD i false = true) → Q .normal a w) :
    ∀ (f : Nat) (s : Array Bool) (a : Act) (w : World), s.toList.count false = f → Inv t.toArray R T a0 w0 s a w → wpAny P .any t.toArray Q f s a w := by
  intro f
  induction f with
  | zero =>
    intro s a w hf inv
    have hr : Region.ready .any t.toArray s = [] := by
      rw [List.eq_nil_iff_forall_not_mem]
      intro i hi
      obtain ⟨hun, o, ho, _⟩ := mem_ready.1 hi
      have hlt : i < s.size := by rw [inv.size]; exact (Array.getElem?_eq_some_iff.1 ho).1
      have h1 : s[i] = false := by simpa [hlt] using hun
      have : false ∈ s.toList := by rw [← h1]; simp
      rw [List.count_eq_zero] at hf
      exact hf this
    exact ⟨hr, hQ s a w inv (done hB inv.size hr)⟩
  | succ f ih =>
    intro s a w hf inv
    refine ⟨fun hr => hQ s a w inv (done hB inv.size hr), fun i hi => ?_⟩
    obtain ⟨hun, o, ho, hall⟩ := mem_ready.1 hi
    have hlt : i < s.size := by rw [inv.size]; exact (Array.getElem?_eq_some_iff.1 ho).1
    have hcnt : (s.setIfInBounds i true).toList.count false = f := by
      have h1 : s[i] = false := by simpa [hlt] using hun
      rw [Array.toList_setIfInBounds, List.count_set (by simpa using hlt)]
      simp [h1, hf]
    obtain ⟨p, hp, hb⟩ := okB_at hB ho
    have hob1 := obs_at hob (i := i) (by simpa using ho) hp a w inv.rel
    rw [Nat.zero_add] at hob1
    have hb' := hb
    simp only [opB, Bool.and_eq_true] at hb'
    obtain ⟨⟨⟨⟨⟨_, _⟩, hb3⟩, hb4⟩, _⟩, hb6⟩ := hb'
    have hob2 := hob1.out fun x hx => by
      have h1 := List.all_eq_true.1 hb3 x hx
      simp only [Bool.and_eq_true] at h1
      obtain ⟨oj, hoj, hdj⟩ := dstB_spec h1.1
      obtain ⟨e, he, hbd, hon⟩ := preds_spec h1.2
      exact inv.vals x.1 oj x.2 hoj (hon ▸ hall e he hbd) hdj
    have hob3 := hob2.out fun k hk => by
      have h1 := List.all_eq_true.1 hb4 k hk
      refine inv.old k fun j oj hj hl hd => ?_
      have h2 := List.all_eq_true.1 h1 j (List.mem_range.2 (Array.getElem?_eq_some_iff.1 hj).1)
      simp only [hj, Bool.or_eq_true, beq_iff_eq] at h2
      rcases h2 with rfl | h2
      · rw [getD_both hun] at hl; cases hl
      · rcases h2 with h2 | h2
        · rw [hd] at h2; simp at h2
        · obtain ⟨e, he, hbd, hon⟩ := preds_spec h2
          have h3 := inv.closed j oj hj hl e he hbd
          rw [hon, getD_both hun] at h3
          cases h3
    have hstep : ∀ v w', R w w' → T i v w' → wpAny P .any t.toArray Q f (s.setIfInBounds i true) (a.put o.dst v) w' := fun v w' h1 h2 => ih _ _ _ hcnt (inv.step ht hmono hn hi ho hb h1 h2)
    have hyes : StepOK P R (T i) w ((execOp a.eval o).run P w) → Oper.wp P o a w (wpAny P .any t.toArray Q f (s.setIfInBounds i true)) Q := fun h => by
      unfold Oper.wp
      cases hr : (execOp a.eval o).run P w with
      | ok x w' =>
        rw [hr] at h
        cases x with
        | value u => exact hstep _ _ h.1 h.2
        | skip => exact hstep _ _ h.1 h.2
        | enter g args =>
          refine Calls.mono h fun e w'' he => ?_
          obtain ⟨v, rfl, h1, h2⟩ := he
          exact hstep _ _ h1 h2
        | _ => exact h.elim
      | halt x w' => rw [hr] at h; exact h.elim
    unfold wpOp
    simp only [ho]
    unfold Region.wanted
    cases hg : o.guard with
    | none =>
      simp only [if_true]
      cases hpg : p.gd with
      | none => rw [hpg] at hob3; exact .inl (hyes hob3)
      | some q => simp [hg, hpg] at hb6
    | some q =>
      obtain ⟨g, b⟩ := q
      cases hpg : p.gd with
      | none => simp [hg, hpg] at hb6
      | some q2 =>
        obtain ⟨d, b'⟩ := q2
        simp only [hg, hpg, Bool.and_eq_true, beq_iff_eq] at hb6
        obtain ⟨hb7, rfl⟩ := hb6
        rw [hpg] at hob3
        simp only []
        by_cases hw : (yielded t.toArray a.tmps g == some b) = true
        · rw [if_pos hw]; exact .inl (hyes (hob3.1 ((yielded_eval hb7).1 hw)))
        · rw [if_neg hw]; exact hstep _ _ (hr w) (hob3.2 fun h => hw ((yielded_eval hb7).2 h))

/-- **Each operation once, whatever order comes.** -/
theorem region {id : Nat} {Q : Exit → Act → World → Prop} {t : List Oper} (n : Nat) (plan : List Plan) (es : List (Nat × Nat)) (ks : List Nat) (hm : P.follows .mixedOrders = true) (hn : a0.tmps.size = n) (hB : okB t.toArray n plan = true) (hE : endB t.toArray es ks = true)
    (hr : ∀ w, R w w) (ht : ∀ a b c, R a b → R b c → R a c) (h0 : R w0 { w0 with drawn := w0.drawn + 1 }) (hmono : ∀ i v w w', T i v w → R w w' → T i v w')
    (hob : Obs P R T a0 w0 0 t plan) (hQ : ∀ a w, R w0 w → a.tmps.size = n → a.defers = a0.defers → Pre T a w es (Kept a a0 ks (Q .normal a w))) : (Code.region id t.toArray true).wp P Q a0 w0 := by
  refine wp_region_any hm (any_of (R := R) (T := T) (a0 := a0) (w0 := w0) hB hn hr ht hmono hob (fun s a w inv hall => ?_) _ _ _ _ (by simp) ⟨by simp, fun j oj _ hl => (by rw [getD_replicate_false] at hl; cases hl), h0, rfl, rfl, fun _ _ => rfl, fun j o d _ hl => (by rw [getD_replicate_false] at hl; cases hl)⟩)
  simp only [endB, Bool.and_eq_true] at hE
  refine ((hQ a w inv.rel (by rw [inv.tmps, hn]) inv.defers).out fun x hx => ?_).out fun k hk => ?_
  · obtain ⟨o, ho, hd⟩ := dstB_spec (List.all_eq_true.1 hE.1 x hx)
    exact inv.vals x.1 o x.2 ho (hall _ (Array.getElem?_eq_some_iff.1 ho).1) hd
  · refine inv.old k fun j o hj _ hd => ?_
    have h1 := List.all_eq_true.1 (List.all_eq_true.1 hE.2 k hk) j (List.mem_range.2 (Array.getElem?_eq_some_iff.1 hj).1)
    simp only [hj] at h1
    rw [hd] at h1
    simp at h1
end

/-- The world grew: nothing that was there has changed. -/
def Gr (w w' : World) : Prop := Below w.heap.size w w'
theorem Gr.refl (w : World) : Gr w w := Below.refl _ _
theorem Gr.trans (a b c : World) (h : Gr a b) (k : Gr b c) : Gr a c := Below.trans h (Below.mono k h.size)
theorem Gr.drew (w : World) : Gr w { w with drawn := w.drawn + 1 } := ⟨rfl, rfl, rfl, Nat.le_refl _, fun _ _ => rfl⟩
def tys (Ts : List (Value → World → Prop)) (i : Nat) : Value → World → Prop := Ts.getD i fun _ _ => True
def Mono (V : Value → World → Prop) : Prop := ∀ v w w', V v w → Gr w w' → V v w'
def Monos : List (Value → World → Prop) → Prop
  | [] => True
  | V :: t => Mono V ∧ Monos t
def Is (u : Value) : Value → World → Prop := fun v _ => v = u
theorem Is.mono (u : Value) : Mono (Is u) := fun _ _ _ h _ => h
theorem monos_at : ∀ {Ts : List (Value → World → Prop)}, Monos Ts → ∀ i v w w', tys Ts i v w → Gr w w' → tys Ts i v w'
  | [], _, _, _, _, _, _, _ => trivial
  | _ :: _, h, 0, v, w, w', hv, hg => h.1 v w w' hv hg
  | _ :: _, h, i + 1, v, w, w', hv, hg => monos_at h.2 i v w w' hv hg
/-- The same, in worlds that only grow. -/
theorem regionG {P : Program} {a0 : Act} {w0 : World} {id : Nat} {Q : Exit → Act → World → Prop} {t : List Oper} (Ts : List (Value → World → Prop)) (n : Nat) (plan : List Plan) (es : List (Nat × Nat)) (ks : List Nat) (hm : P.follows .mixedOrders = true) (hn : a0.tmps.size = n)
    (hB : okB t.toArray n plan = true) (hE : endB t.toArray es ks = true) (hmono : Monos Ts) (hob : Obs P Gr (tys Ts) a0 w0 0 t plan) (hQ : ∀ a w, Gr w0 w → a.tmps.size = n → a.defers = a0.defers → Pre (tys Ts) a w es (Kept a a0 ks (Q .normal a w))) : (Code.region id t.toArray true).wp P Q a0 w0 :=
  region (R := Gr) (T := tys Ts) n plan es ks hm hn hB hE Gr.refl Gr.trans (Gr.drew w0) (monos_at hmono) hob hQ
theorem act_lit {a : Act} {n : Nat} {ds : List Deferred} (hs : a.tmps.size = n) (hd : a.defers = ds) : a = ⟨((List.range n).map fun k => a.eval (.tmp k)).toArray, ds⟩ := by
  obtain ⟨ts, df⟩ := a
  simp only at hs hd
  subst hs hd
  congr 1
  apply Array.ext
  · simp
  · intro i h1 h2
    simp [Act.eval, h1]

/-! What one operation does, from what it reads. -/
section
variable {P : Program} {w : World} {V : Value → World → Prop} {ρ : Operand → Value} {o : Oper}
theorem ok_run {v : Value} (h : (execOp ρ o).run P w = .ok (.value v) w) (hv : V v w) : StepOK P Gr V w ((execOp ρ o).run P w) := by
  rw [h]; exact ⟨Gr.refl w, hv⟩
theorem ok_move {x : Operand} (ho : o.op = .move x) (hv : V (ρ x) w) : StepOK P Gr V w ((execOp ρ o).run P w) := by
  refine ok_run (v := ρ x) ?_ hv
  unfold execOp; simp only [ho]; rfl
theorem ok_assign {x : Operand} (ho : o.op = .assign x) (hv : V (ρ x) w) : StepOK P Gr V w ((execOp ρ o).run P w) := by
  refine ok_run (v := ρ x) ?_ hv
  unfold execOp; simp only [ho]; rfl
theorem ok_pick {c x y : Operand} {b : Bool} (ho : o.op = .pick c x y) (hc : ρ c = .bool b) (hv : V (if b then ρ x else ρ y) w) : StepOK P Gr V w ((execOp ρ o).run P w) := by
  refine ok_run (v := if b then ρ x else ρ y) ?_ hv
  unfold execOp; simp only [ho, hc]; rfl
theorem ok_convert {s d : TypeId} {x : Operand} {u v : Value} (ho : o.op = .convert s d x) (hx : ρ x = u) (hr : (convert s d u).run P w = .ok v w) (hv : V v w) : StepOK P Gr V w ((execOp ρ o).run P w) := by
  refine ok_run (v := v) ?_ hv
  unfold execOp
  simp only [ho, hx]
  simp only [Sem.run_bind, hr]
  rfl
theorem ok_call {a : Act} {f : FuncId} {xs : Array Operand} {ts : Array TypeId} (ho : o.op = .call { callee := .value (.func f), args := xs, argTypes := ts }) (vs : Array Value) (hen : (callFunc f vs).run P w = .ok (.enter f vs) w) (hv : xs.map a.eval = vs)
    (hc : Calls P f vs w fun e w' => ∃ v, e = .returned v ∧ Gr w w' ∧ V v w') : StepOK P Gr V w ((execOp a.eval o).run P w) := by
  obtain ⟨dst, op, ty, pos, after, guard⟩ := o
  simp only at ho
  subst ho
  rw [execOp_call_go, hv]
  have e : #[] ++ vs ++ #[] = vs := by simp
  rw [e, hen]
  exact hc
end
end Gt
