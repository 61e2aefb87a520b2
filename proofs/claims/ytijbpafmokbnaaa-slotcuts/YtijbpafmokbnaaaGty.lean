/- A region that leaves its order open, where each operation's value is told by a predicate of its own that later growth of the world bears: whatever order comes, each operation is looked at once. -/
import Derived.Orders
import Derived.StillTail
import Derived.Below
import Derived.BigCall
namespace Gt
open Go Go.RowKit

/-- What is asked of an operation's outcome. -/
def StepOK (P : Program) (R : World → World → Prop) (V : Value → World → Prop) (w : World) : Result Next → Prop
  | .ok (.value v) w' => R w w' ∧ V v w'
  | .ok .skip w' => R w w' ∧ V undef w'
  | .ok (.enter f args) w' => Calls P f args w' fun e w'' => ∃ v, e = .returned v ∧ R w w'' ∧ V v w''
  | _ => False
/-- Of an operation: which earlier ones' values it may know (number, slot); which slots it reads that stand as they were; its guard (slot, what is wanted). -/
structure Plan where
  ds : List (Nat × Nat)
  ks : List Nat
  gd : Option (Nat × Bool)
def preds (o : Oper) (j : Nat) : Bool := o.after.any fun e => Region.binds .any e && e.on == j
def dstB (ops : Array Oper) (j d : Nat) : Bool := match ops[j]? with | some o => o.dst == some d | none => false
def freeB (ops : Array Oper) (i k : Nat) : Bool := (List.range ops.size).all fun j => j == i || (match ops[j]? with | some o => o.dst != some k || preds o i | none => true)
def loneB (ops : Array Oper) (i : Nat) (o : Oper) : Bool := (List.range ops.size).all fun j => j == i || o.dst.isNone || (match ops[j]? with | some oj => oj.dst != o.dst | none => true)
def opB (ops : Array Oper) (n i : Nat) (o : Oper) (p : Plan) : Bool :=
  (match o.dst with | some d => decide (d < n) | none => true) && (o.after.all fun e => !Region.binds .any e || decide (e.on < i)) &&
  (p.ds.all fun x => dstB ops x.1 x.2 && preds o x.1) && (p.ks.all fun k => freeB ops i k) && loneB ops i o &&
  (match o.guard, p.gd with | none, none => true | some (g, b), some (d, b') => dstB ops g d && b == b' | _, _ => false)
def okB (ops : Array Oper) (n : Nat) (plan : List Plan) : Bool :=
  (List.range ops.size).all fun i => match ops[i]?, plan[i]? with | some o, some p => opB ops n i o p | _, _ => false
def endB (ops : Array Oper) (es : List (Nat × Nat)) (ks : List Nat) : Bool :=
  (es.all fun x => dstB ops x.1 x.2) && (ks.all fun k => (List.range ops.size).all fun j => match ops[j]? with | some o => o.dst != some k | none => true)

def Pre (T : Nat → Value → World → Prop) (a : Act) (w : World) : List (Nat × Nat) → Prop → Prop
  | [], G => G
  | x :: t, G => T x.1 (a.eval (.tmp x.2)) w → Pre T a w t G
def Kept (a a0 : Act) : List Nat → Prop → Prop
  | [], G => G
  | k :: t, G => a.eval (.tmp k) = a0.eval (.tmp k) → Kept a a0 t G
def Guarded (a : Act) (gd : Option (Nat × Bool)) (G N : Prop) : Prop :=
  match gd with
  | none => G
  | some (d, b) => (a.eval (.tmp d) = .bool b → G) ∧ (a.eval (.tmp d) ≠ .bool b → N)
def Ob (P : Program) (R : World → World → Prop) (T : Nat → Value → World → Prop) (a0 : Act) (w0 : World) (i : Nat) (o : Oper) (p : Plan) : Prop :=
  ∀ a w, R w0 w → Pre T a w p.ds (Kept a a0 p.ks (Guarded a p.gd (StepOK P R (T i) w ((execOp a.eval o).run P w)) (T i undef w)))
def Obs (P : Program) (R : World → World → Prop) (T : Nat → Value → World → Prop) (a0 : Act) (w0 : World) : Nat → List Oper → List Plan → Prop
  | i, o :: t, p :: ps => Ob P R T a0 w0 i o p ∧ Obs P R T a0 w0 (i + 1) t ps
  | _, _, _ => True

theorem Pre.out {T : Nat → Value → World → Prop} {a : Act} {w : World} {G : Prop} : ∀ {l : List (Nat × Nat)}, Pre T a w l G → (∀ x ∈ l, T x.1 (a.eval (.tmp x.2)) w) → G
  | [], h, _ => h
  | _ :: _, h, k => Pre.out (h (k _ (by simp))) fun x hx => k x (by simp [hx])
theorem Kept.out {a a0 : Act} {G : Prop} : ∀ {l : List Nat}, Kept a a0 l G → (∀ k ∈ l, a.eval (.tmp k) = a0.eval (.tmp k)) → G
  | [], h, _ => h
  | _ :: _, h, k => Kept.out (h (k _ (by simp))) fun x hx => k x (by simp [hx])

theorem dstB_spec {ops : Array Oper} {j d : Nat} (h : dstB ops j d = true) : ∃ o, ops[j]? = some o ∧ o.dst = some d := by
  unfold dstB at h
  cases ho : ops[j]? with
  | none => simp [ho] at h
  | some o => simp only [ho] at h; exact ⟨o, rfl, by simpa using h⟩
theorem preds_spec {o : Oper} {j : Nat} (h : preds o j = true) : ∃ e ∈ o.after, Region.binds .any e = true ∧ e.on = j := by
  unfold preds at h
  rw [Array.any_eq_true'] at h
  obtain ⟨e, he, h⟩ := h
  simp only [Bool.and_eq_true, beq_iff_eq] at h
  exact ⟨e, he, h.1, h.2⟩
theorem yielded_eval {ops : Array Oper} {a : Act} {g d : Nat} {b : Bool} (h : dstB ops g d = true) : (yielded ops a.tmps g == some b) = true ↔ a.eval (.tmp d) = .bool b := by
  obtain ⟨o, ho, hd⟩ := dstB_spec h
  unfold yielded
  simp only [ho, hd, Option.bind_some, Act.eval]
  cases hv : a.tmps[d]? with
  | none => simp [hv, undef]
  | some v => cases v <;> simp [hv]

section
variable {P : Program} {ops : Array Oper} {R : World → World → Prop} {T : Nat → Value → World → Prop} {a0 : Act} {w0 : World}

structure Inv (ops : Array Oper) (R : World → World → Prop) (T : Nat → Value → World → Prop) (a0 : Act) (w0 : World) (s : Array Bool) (a : Act) (w : World) : Prop where
  size : s.size = ops.size
  closed : ∀ j oj, ops[j]? = some oj → s.getD j false = true → ∀ e ∈ oj.after, Region.binds .any e = true → s.getD e.on false = true
  rel : R w0 w
  tmps : a.tmps.size = a0.tmps.size
  defers : a.defers = a0.defers
  old : ∀ k, (∀ j o, ops[j]? = some o → s.getD j false = true → o.dst ≠ some k) → a.eval (.tmp k) = a0.eval (.tmp k)
  vals : ∀ j o d, ops[j]? = some o → s.getD j false = true → o.dst = some d → T j (a.eval (.tmp d)) w

theorem okB_at {n : Nat} {plan : List Plan} (h : okB ops n plan = true) {i : Nat} {o : Oper} (ho : ops[i]? = some o) : ∃ p, plan[i]? = some p ∧ opB ops n i o p = true := by
  unfold okB at h
  rw [List.all_eq_true] at h
  have := h i (List.mem_range.2 (Array.getElem?_eq_some_iff.1 ho).1)
  rw [ho] at this
  cases hp : plan[i]? with
  | none => simp [hp] at this
  | some p => simp only [hp] at this; exact ⟨p, rfl, this⟩
theorem obs_at {t : List Oper} : ∀ {plan : List Plan} {k : Nat}, Obs P R T a0 w0 k t plan → ∀ {i : Nat} {o : Oper} {p : Plan}, t[i]? = some o → plan[i]? = some p → Ob P R T a0 w0 (k + i) o p := by
  induction t with
  | nil => intro plan k _ i o p h; simp at h
  | cons x t ih =>
    intro plan k h i o p h1 h2
    cases plan with
    | nil => simp at h2
    | cons q ps =>
      cases i with
      | zero => simp at h1 h2; subst h1 h2; exact h.1
      | succ i =>
        have := ih h.2 (i := i) (by simpa using h1) (by simpa using h2)
        rw [show k + (i + 1) = k + 1 + i from by omega]; exact this
theorem eval_put_same {a : Act} {d : Nat} {v : Value} (h : d < a.tmps.size) : (a.put (some d) v).eval (.tmp d) = v := by
  simp [Act.eval, Act.put, h]
theorem Inv.step {s : Array Bool} {a : Act} {w w' : World} {i : Nat} {o : Oper} {v : Value} {n : Nat} {p : Plan} (inv : Inv ops R T a0 w0 s a w) (ht : ∀ a b c, R a b → R b c → R a c) (hmono : ∀ i v w w', T i v w → R w w' → T i v w')
    (hn : a0.tmps.size = n) (hi : i ∈ Region.ready .any ops s) (ho : ops[i]? = some o) (hb : opB ops n i o p = true) (hw : R w w') (hv : T i v w') : Inv ops R T a0 w0 (s.setIfInBounds i true) (a.put o.dst v) w' := by
  obtain ⟨hun, oi, hoi, hall⟩ := mem_ready.1 hi
  rw [ho] at hoi
  obtain rfl : o = oi := by simpa using hoi
  have hsz : i < s.size := by rw [inv.size]; exact (Array.getElem?_eq_some_iff.1 ho).1
  simp only [opB, Bool.and_eq_true] at hb
  obtain ⟨⟨⟨⟨⟨hb1, _⟩, _⟩, _⟩, hb5⟩, _⟩ := hb
  have hset : ∀ j, (s.setIfInBounds i true).getD j false = true → j = i ∨ s.getD j false = true := fun j hj => by
    by_cases e : j = i
    · exact .inl e
    · right; rwa [getD_set_ne false (Ne.symm e)] at hj
  refine ⟨by simp [inv.size], fun j oj hj hl e he hbd => ?_, ht _ _ _ inv.rel hw, ?_, ?_, fun k hk => ?_, fun j oj d hj hl hd => ?_⟩
  · rcases hset j hl with rfl | h
    · rw [ho] at hj; obtain rfl : o = oj := by simpa using hj
      exact getD_set_true (hall e he hbd)
    · exact getD_set_true (inv.closed j oj hj h e he hbd)
  · rw [← inv.tmps]; cases o.dst <;> simp [Act.put]
  · rw [← inv.defers]; cases o.dst <;> simp [Act.put]
  · have h1 : o.dst ≠ some k := hk i o ho (by simp [hsz])
    rw [Act.eval_put fun d hd hx => h1 (by rw [hd]; injection hx with hx; rw [hx])]
    exact inv.old k fun j oj hj hl => hk j oj hj (getD_set_true hl)
  · rcases hset j hl with rfl | h
    · rw [ho] at hj; obtain rfl : o = oj := by simpa using hj
      rw [hd] at hb1 ⊢
      rw [eval_put_same (by rw [inv.tmps, hn]; simpa using hb1)]
      exact hv
    · by_cases e : j = i
      · subst e; rw [getD_both hun] at h; cases h
      · have h1 := (List.all_eq_true.1 hb5) j (List.mem_range.2 (Array.getElem?_eq_some_iff.1 hj).1)
        simp only [hj, Bool.or_eq_true, beq_iff_eq, e, false_or] at h1
        have hne : ∀ d', o.dst = some d' → Operand.tmp d ≠ .tmp d' := fun d' hd' hx => by
          injection hx with hx
          rcases h1 with h1 | h1
          · rw [hd'] at h1; cases h1
          · rw [hd', hd, hx] at h1; simp at h1
        rw [Act.eval_put fun d' hd' => hne d' hd']
        exact hmono _ _ _ _ (inv.vals j oj d hj h hd) hw

theorem done {s : Array Bool} {n : Nat} (hB : ∀ (i : Nat) (o : Oper), ops[i]? = some o → ∃ p, opB ops n i o p = true) (hs : s.size = ops.size) (hr : Region.ready .any ops s = []) : ∀ i, i < ops.size → s.getD i false = true := by
  intro i
  induction i using Nat.strongRecOn with
  | _ i ih =>
    intro hi
    by_cases h : s.getD i false = true
    · exact h
    · exfalso
      have ho : ops[i]? = some ops[i] := by simp [hi]
      have hun : s.getD i true = false := getD_in (by rw [hs]; exact hi) (by simpa using h)
      obtain ⟨p, hb⟩ := hB i _ ho
      simp only [opB, Bool.and_eq_true] at hb
      have h2 := hb.1.1.1.1.2
      rw [Array.all_eq_true'] at h2
      have : i ∈ Region.ready .any ops s := mem_ready.2 ⟨hun, _, ho, fun e he hbd => by
        have h3 := h2 e he
        simp only [hbd, Bool.not_true, Bool.false_or, decide_eq_true_eq] at h3
        exact ih e.on h3 (by omega)⟩
      rw [hr] at this
      cases this
/-- One operation that comes up. -/
theorem op_of {Q : Exit → Act → World → Prop} {K : Act → World → Prop} {ops : Array Oper} {n i : Nat} {o : Oper} {p : Plan} {s : Array Bool} {a : Act} {w : World} (hr : ∀ w, R w w) (inv : Inv ops R T a0 w0 s a w) (hi : i ∈ Region.ready .any ops s) (ho : ops[i]? = some o) (hb : opB ops n i o p = true)
    (hob1 : Ob P R T a0 w0 i o p) (hK : ∀ v w', R w w' → T i v w' → K (a.put o.dst v) w') : wpOp P ops Q i K a w := by
  obtain ⟨hun, oi, hoi, hall⟩ := mem_ready.1 hi
  rw [ho] at hoi
  obtain rfl : o = oi := by simpa using hoi
  have hob1 := hob1 a w inv.rel
  have hb' := hb
  simp only [opB, Bool.and_eq_true] at hb'
  obtain ⟨⟨⟨⟨⟨_, _⟩, hb3⟩, hb4⟩, _⟩, hb6⟩ := hb'
  have hob2 := hob1.out fun x hx => by
    have h1 := List.all_eq_true.1 hb3 x hx
    simp only [Bool.and_eq_true] at h1
    obtain ⟨oj, hoj, hdj⟩ := dstB_spec h1.1
    obtain ⟨e, he, hbd, hon⟩ := preds_spec h1.2
    exact inv.vals x.1 oj x.2 hoj (hon ▸ hall e he hbd) hdj
  have hob3 := hob2.out fun k hk => by
    have h1 := List.all_eq_true.1 hb4 k hk
    refine inv.old k fun j oj hj hl hd => ?_
    have h2 := List.all_eq_true.1 h1 j (List.mem_range.2 (Array.getElem?_eq_some_iff.1 hj).1)
    simp only [hj, Bool.or_eq_true, beq_iff_eq] at h2
    rcases h2 with rfl | h2
    · rw [getD_both hun] at hl; cases hl
    · rcases h2 with h2 | h2
      · rw [hd] at h2; simp at h2
      · obtain ⟨e, he, hbd, hon⟩ := preds_spec h2
        have h3 := inv.closed j oj hj hl e he hbd
        rw [hon, getD_both hun] at h3
        cases h3
  have hyes : StepOK P R (T i) w ((execOp a.eval o).run P w) → Oper.wp P o a w K Q := fun h => by
    unfold Oper.wp
    cases hr : (execOp a.eval o).run P w with
    | ok x w' =>
      rw [hr] at h
      cases x with
      | value u => exact hK _ _ h.1 h.2
      | skip => exact hK _ _ h.1 h.2
      | enter g args =>
        refine Calls.mono h fun e w'' he => ?_
        obtain ⟨v, rfl, h1, h2⟩ := he
        exact hK _ _ h1 h2
      | _ => exact h.elim
    | halt x w' => rw [hr] at h; exact h.elim
  unfold wpOp
  simp only [ho]
  unfold Region.wanted
  cases hg : o.guard with
  | none =>
    simp only [if_true]
    cases hpg : p.gd with
    | none => rw [hpg] at hob3; exact .inl (hyes hob3)
    | some q => simp [hg, hpg] at hb6
  | some q =>
    obtain ⟨g, b⟩ := q
    cases hpg : p.gd with
    | none => simp [hg, hpg] at hb6
    | some q2 =>
      obtain ⟨d, b'⟩ := q2
      simp only [hg, hpg, Bool.and_eq_true, beq_iff_eq] at hb6
      obtain ⟨hb7, rfl⟩ := hb6
      rw [hpg] at hob3
      simp only []
      by_cases hw : (yielded ops a.tmps g == some b) = true
      · rw [if_pos hw]; exact .inl (hyes (hob3.1 ((yielded_eval hb7).1 hw)))
      · rw [if_neg hw]; exact hK _ _ (hr w) (hob3.2 fun h => hw ((yielded_eval hb7).2 h))
theorem any_of {Q : Exit → Act → World → Prop} {n : Nat} {plan : List Plan} {t : List Oper} (hB : okB t.toArray n plan = true) (hn : a0.tmps.size = n) (hr : ∀ w, R w w) (ht : ∀ a b c, R a b → R b c → R a c) (hmono : ∀ i v w w', T i v w → R w w' → T i v w')
    (hob : Obs P R T a0 w0 0 t plan) (hQ : ∀ s a w, Inv t.toArray R T a0 w0 s a w → (∀ i, i < t.toArray.size → s.getD i false = true) → Q .normal a w) :
    ∀ (f : Nat) (s : Array Bool) (a : Act) (w : World), s.toList.count false = f → Inv t.toArray R T a0 w0 s a w → wpAny P .any t.toArray Q f s a w := by
  intro f
  induction f with
  | zero =>
    intro s a w hf inv
    have hr : Region.ready .any t.toArray s = [] := by
      rw [List.eq_nil_iff_forall_not_mem]
      intro i hi
      obtain ⟨hun, o, ho, _⟩ := mem_ready.1 hi
      have hlt : i < s.size := by rw [inv.size]; exact (Array.getElem?_eq_some_iff.1 ho).1
      have h1 : s[i] = false := by simpa [hlt] using hun
      have : false ∈ s.toList := by rw [← h1]; simp
      rw [List.count_eq_zero] at hf
      exact hf this
    exact ⟨hr, hQ s a w inv (done (n := n) (fun i o ho => (okB_at hB ho).imp fun p h => h.2) inv.size hr)⟩
  | succ f ih =>
    intro s a w hf inv
    refine ⟨fun hr => hQ s a w inv (done (n := n) (fun i o ho => (okB_at hB ho).imp fun p h => h.2) inv.size hr), fun i hi => ?_⟩
    obtain ⟨hun, o, ho, hall⟩ := mem_ready.1 hi
    have hlt : i < s.size := by rw [inv.size]; exact (Array.getElem?_eq_some_iff.1 ho).1
    have hcnt : (s.setIfInBounds i true).toList.count false = f := by
      have h1 : s[i] = false := by simpa [hlt] using hun
      rw [Array.toList_setIfInBounds, List.count_set (by simpa using hlt)]
      simp [h1, hf]
    obtain ⟨p, hp, hb⟩ := okB_at hB ho
    have hob1 := obs_at hob (i := i) (by simpa using ho) hp
    rw [Nat.zero_add] at hob1
    exact op_of hr inv hi ho hb hob1 fun v w' h1 h2 => ih _ _ _ hcnt (inv.step ht hmono hn hi ho hb h1 h2)

/-- **Each operation once, whatever order comes.** -/
theorem region {id : Nat} {Q : Exit → Act → World → Prop} {t : List Oper} (n : Nat) (plan : List Plan) (es : List (Nat × Nat)) (ks : List Nat) (hm : P.follows .mixedOrders = true) (hn : a0.tmps.size = n) (hB : okB t.toArray n plan = true) (hE : endB t.toArray es ks = true)
    (hr : ∀ w, R w w) (ht : ∀ a b c, R a b → R b c → R a c) (h0 : R w0 { w0 with drawn := w0.drawn + 1 }) (hmono : ∀ i v w w', T i v w → R w w' → T i v w')
    (hob : Obs P R T a0 w0 0 t plan) (hQ : ∀ a w, R w0 w → a.tmps.size = n → a.defers = a0.defers → Pre T a w es (Kept a a0 ks (Q .normal a w))) : (Code.region id t.toArray true).wp P Q a0 w0 := by
  refine wp_region_any hm (any_of (R := R) (T := T) (a0 := a0) (w0 := w0) hB hn hr ht hmono hob (fun s a w inv hall => ?_) _ _ _ _ (by simp) ⟨by simp, fun j oj _ hl => (by rw [getD_replicate_false] at hl; cases hl), h0, rfl, rfl, fun _ _ => rfl, fun j o d _ hl => (by rw [getD_replicate_false] at hl; cases hl)⟩)
  simp only [endB, Bool.and_eq_true] at hE
  refine ((hQ a w inv.rel (by rw [inv.tmps, hn]) inv.defers).out fun x hx => ?_).out fun k hk => ?_
  · obtain ⟨o, ho, hd⟩ := dstB_spec (List.all_eq_true.1 hE.1 x hx)
    exact inv.vals x.1 o x.2 ho (hall _ (Array.getElem?_eq_some_iff.1 ho).1) hd
  · refine inv.old k fun j o hj _ hd => ?_
    have h1 := List.all_eq_true.1 (List.all_eq_true.1 hE.2 k hk) j (List.mem_range.2 (Array.getElem?_eq_some_iff.1 hj).1)
    simp only [hj] at h1
    rw [hd] at h1
    simp at h1

/-- All of the first h are listed, and no other one. -/
def headS (m h : Nat) : Array Bool := ((List.range m).map fun i => decide (i < h)).toArray
theorem any_tail {Q : Exit → Act → World → Prop} {n h : Nat} {plan : List Plan} {t : List Oper} (hB : okB t.toArray n plan = true) (hn : a0.tmps.size = n) (hh : h < t.toArray.size) (hs : Region.sinkB .any t.toArray h = true) (hc : Region.chainB .any t.toArray h = true)
    (hq : Region.seqB .any t.toArray (t.drop h).length h (headS t.toArray.size h) = true) (hr : ∀ w, R w w) (ht : ∀ a b c, R a b → R b c → R a c) (hmono : ∀ i v w w', T i v w → R w w' → T i v w')
    (hob : Obs P R T a0 w0 0 (t.take h) plan) (hQ : ∀ s a w, Inv t.toArray R T a0 w0 s a w → (∀ i, i < h → s.getD i false = true) → (∀ j, h ≤ j → j < t.toArray.size → s.getD j true = false) → wpList P t.toArray Q (t.drop h) a w) :
    ∀ (f : Nat) (s : Array Bool) (a : Act) (w : World), (s.toList.take h).count false = f → Inv t.toArray R T a0 w0 s a w → (∀ j, h ≤ j → j < t.toArray.size → s.getD j true = false) → wpAny P .any t.toArray Q (f + (t.drop h).length) s a w := by
  intro f
  induction f with
  | zero =>
    intro s a w hf inv htl
    have hall : ∀ i, i < h → s.getD i false = true := fun i hi => by
      have hlt : i < s.size := by rw [inv.size]; omega
      by_cases e : s[i] = true
      · simp [hlt, e]
      · exfalso
        have h1 : s[i] = false := by simpa using e
        have : false ∈ s.toList.take h := by
          rw [List.mem_take_iff_getElem]
          exact ⟨i, by simp; omega, by simpa using h1⟩
        rw [List.count_eq_zero] at hf
        exact hf this
    have hse : s = headS t.toArray.size h := by
      apply Array.ext
      · simp [headS, inv.size]
      · intro i h1 h2
        have hi : i < t.toArray.size := by rw [← inv.size]; exact h1
        simp only [headS, List.getElem_toArray, List.getElem_map, List.getElem_range]
        by_cases e : i < h
        · have := hall i e
          simp only [e, decide_true]
          simpa [h1] using this
        · have := htl i (by omega) hi
          simp only [e, decide_false]
          simpa [h1] using this
    rw [Nat.zero_add]
    exact wpAny_of_seq (t.drop h) h s a w (fun j => by simp [List.getElem?_drop]) (by rw [hse]; exact hq) (hQ s a w inv hall htl)
  | succ f ih =>
    intro s a w hf inv htl
    rw [show f + 1 + (t.drop h).length = (f + (t.drop h).length) + 1 from by omega]
    have hB' : ∀ (i : Nat) (o : Oper), t.toArray[i]? = some o → ∃ p, opB t.toArray n i o p = true := fun i o ho => (okB_at hB ho).imp fun p h => h.2
    refine ⟨fun hr => ?_, fun i hi => ?_⟩
    · have h1 := done hB' inv.size hr h hh
      have h2 := getD_both (htl h (Nat.le_refl _) hh)
      rw [h2] at h1
      cases h1
    · obtain ⟨hun, o, ho, hall⟩ := mem_ready.1 hi
      have hlt : i < s.size := by rw [inv.size]; exact (Array.getElem?_eq_some_iff.1 ho).1
      have hhead : HeadInv .any t.toArray h s := ⟨inv.size, inv.closed, htl⟩
      have hih : i < h := by
        refine Nat.lt_of_not_le fun hle => ?_
        have : 0 < (s.toList.take h).count false := by omega
        rw [List.count_pos_iff, List.mem_take_iff_getElem] at this
        obtain ⟨k, hk, e⟩ := this
        have hk1 : k < h := by simp at hk; omega
        have hk2 : k < s.size := by simp at hk; omega
        have e' : s[k] = false := by simpa using e
        exact tail_waits hs hc hh hhead _ k rfl hk1 (by simp [hk2, e']) i hle hi
      have hcnt : ((s.setIfInBounds i true).toList.take h).count false = f := by
        have h1 : s[i] = false := by simpa [hlt] using hun
        rw [Array.toList_setIfInBounds, List.take_set, List.count_set (by simp; omega)]
        simp [h1, hf]
      obtain ⟨p, hp, hb⟩ := okB_at hB ho
      have hob1 := obs_at hob (i := i) (by rw [List.getElem?_take_of_lt hih]; simpa using ho) hp
      rw [Nat.zero_add] at hob1
      exact op_of hr inv hi ho hb hob1 fun v w' h1 h2 => ih _ _ _ hcnt (inv.step ht hmono hn hi ho hb h1 h2) fun j hj hj' => by
        rw [getD_set_ne true (by omega)]; exact htl j hj hj'
def tailB (t : List Oper) (h : Nat) : Bool := decide (h < t.toArray.size) && Region.sinkB .any t.toArray h && Region.chainB .any t.toArray h && Region.seqB .any t.toArray (t.drop h).length h (headS t.toArray.size h)
def endT (t : List Oper) (h : Nat) (es : List (Nat × Nat)) (ks : List Nat) : Bool :=
  (es.all fun x => decide (x.1 < h) && dstB t.toArray x.1 x.2) && (ks.all fun k => (List.range h).all fun j => match t.toArray[j]? with | some o => o.dst != some k | none => true)
/-- **Each of the first h operations once, whatever order comes; then the rest, one behind the other.** -/
theorem regionT {id : Nat} {Q : Exit → Act → World → Prop} {t : List Oper} (n h : Nat) (plan : List Plan) (es : List (Nat × Nat)) (ks : List Nat) (hm : P.follows .mixedOrders = true) (hn : a0.tmps.size = n) (hB : okB t.toArray n plan = true) (hT : tailB t h = true) (hE : endT t h es ks = true)
    (hr : ∀ w, R w w) (ht : ∀ a b c, R a b → R b c → R a c) (h0 : R w0 { w0 with drawn := w0.drawn + 1 }) (hmono : ∀ i v w w', T i v w → R w w' → T i v w')
    (hob : Obs P R T a0 w0 0 (t.take h) plan) (hQ : ∀ a w, R w0 w → a.tmps.size = n → a.defers = a0.defers → Pre T a w es (Kept a a0 ks (wpList P t.toArray Q (t.drop h) a w))) : (Code.region id t.toArray true).wp P Q a0 w0 := by
  simp only [tailB, Bool.and_eq_true, decide_eq_true_eq] at hT
  obtain ⟨⟨⟨h1, h2⟩, h3⟩, h4⟩ := hT
  have h1' : h < t.length := by simpa using h1
  have hsz : h + (t.drop h).length = t.toArray.size := by simp; omega
  have key := any_tail (Q := Q) (R := R) (T := T) (a0 := a0) (w0 := w0) hB hn h1 h2 h3 h4 hr ht hmono hob (fun s a w inv hall htl => ?_) h (Array.replicate t.toArray.size false) a0 { w0 with drawn := w0.drawn + 1 } (by simp; omega) ⟨by simp, fun j oj _ hl => (by rw [getD_replicate_false] at hl; cases hl), h0, rfl, rfl, fun _ _ => rfl, fun j o d _ hl => (by rw [getD_replicate_false] at hl; cases hl)⟩ (fun j _ hj => getD_in (by simpa using hj) (getD_replicate_false _ _))
  · rw [hsz] at key
    exact wp_region_any hm key
  · simp only [endT, Bool.and_eq_true] at hE
    refine ((hQ a w inv.rel (by rw [inv.tmps, hn]) inv.defers).out fun x hx => ?_).out fun k hk => ?_
    · have h5 := List.all_eq_true.1 hE.1 x hx
      simp only [Bool.and_eq_true, decide_eq_true_eq] at h5
      obtain ⟨o, ho, hd⟩ := dstB_spec h5.2
      exact inv.vals x.1 o x.2 ho (hall _ h5.1) hd
    · refine inv.old k fun j o hj hl hd => ?_
      by_cases e : j < h
      · have h5 := List.all_eq_true.1 (List.all_eq_true.1 hE.2 k hk) j (List.mem_range.2 e)
        simp only [hj] at h5
        rw [hd] at h5
        simp at h5
      · rw [getD_both (htl j (by omega) (Array.getElem?_eq_some_iff.1 hj).1)] at hl
        cases hl

end

/-- The world grew: nothing that was there has changed. -/
def Gr (w w' : World) : Prop := Below w.heap.size w w'
theorem Gr.refl (w : World) : Gr w w := Below.refl _ _
theorem Gr.trans (a b c : World) (h : Gr a b) (k : Gr b c) : Gr a c := Below.trans h (Below.mono k h.size)
theorem Gr.drew (w : World) : Gr w { w with drawn := w.drawn + 1 } := ⟨rfl, rfl, rfl, Nat.le_refl _, fun _ _ => rfl⟩
def tys (Ts : List (Value → World → Prop)) (i : Nat) : Value → World → Prop := Ts.getD i fun _ _ => True
def Mono (V : Value → World → Prop) : Prop := ∀ v w w', V v w → Gr w w' → V v w'
def Monos : List (Value → World → Prop) → Prop
  | [] => True
  | V :: t => Mono V ∧ Monos t
def Is (u : Value) : Value → World → Prop := fun v _ => v = u
theorem Is.mono (u : Value) : Mono (Is u) := fun _ _ _ h _ => h
theorem monos_at : ∀ {Ts : List (Value → World → Prop)}, Monos Ts → ∀ i v w w', tys Ts i v w → Gr w w' → tys Ts i v w'
  | [], _, _, _, _, _, _, _ => trivial
  | _ :: _, h, 0, v, w, w', hv, hg => h.1 v w w' hv hg
  | _ :: _, h, i + 1, v, w, w', hv, hg => monos_at h.2 i v w w' hv hg
/-- The same, in worlds that only grow. -/
theorem regionG {P : Program} {a0 : Act} {w0 : World} {id : Nat} {Q : Exit → Act → World → Prop} {t : List Oper} (Ts : List (Value → World → Prop)) (n : Nat) (plan : List Plan) (es : List (Nat × Nat)) (ks : List Nat) (hm : P.follows .mixedOrders = true) (hn : a0.tmps.size = n)
    (hB : okB t.toArray n plan = true) (hE : endB t.toArray es ks = true) (hmono : Monos Ts) (hob : Obs P Gr (tys Ts) a0 w0 0 t plan) (hQ : ∀ a w, Gr w0 w → a.tmps.size = n → a.defers = a0.defers → Pre (tys Ts) a w es (Kept a a0 ks (Q .normal a w))) : (Code.region id t.toArray true).wp P Q a0 w0 :=
  region (R := Gr) (T := tys Ts) n plan es ks hm hn hB hE Gr.refl Gr.trans (Gr.drew w0) (monos_at hmono) hob hQ
theorem act_ext {a b : Act} (hs : b.tmps.size = a.tmps.size) (hd : b.defers = a.defers) (h : ∀ k, b.eval (.tmp k) = a.eval (.tmp k)) : b = a := by
  obtain ⟨ta, da⟩ := a
  obtain ⟨tb, db⟩ := b
  simp only at hs hd
  subst hd
  congr 1
  apply Array.ext hs
  intro i h1 h2
  have := h i
  simpa [Act.eval, h1, h2] using this
/-- The values of some slots are put, one by one. -/
def puts (a : Act) (es : List (Nat × Nat)) (b : Act) : Act := es.foldl (fun b x => b.put (some x.2) (a.eval (.tmp x.2))) b
theorem puts_eq {a : Act} : ∀ {es : List (Nat × Nat)} {b : Act}, b.tmps.size = a.tmps.size → b.defers = a.defers → (∀ k, b.eval (.tmp k) = a.eval (.tmp k) ∨ k ∈ es.map (·.2)) → puts a es b = a
  | [], b, hs, hd, h => act_ext (b := b) hs hd fun k => by simpa using h k
  | x :: es, b, hs, hd, h => by
    show puts a es (b.put (some x.2) (a.eval (.tmp x.2))) = a
    refine puts_eq (by simp [Act.put, hs]) (by simp [Act.put, hd]) fun k => ?_
    by_cases e : k = x.2
    · left
      subst e
      by_cases hk : x.2 < b.tmps.size
      · exact eval_put_same hk
      · have h1 : a.tmps[x.2]? = none := by simp; omega
        simp [Act.eval, Act.put, h1, Array.setIfInBounds, hk]
    · rw [Act.eval_put fun d hd' hx => e (by injection hd' with hd'; injection hx with hx; exact hx.trans hd'.symm)]
      rcases h k with h1 | h1
      · exact .inl h1
      · rw [List.map_cons, List.mem_cons] at h1
        rcases h1 with h1 | h1
        · exact absurd h1 e
        · exact .inr h1
/-- All slots that the first h operations put are among es. -/
def allB (t : List Oper) (h : Nat) (es : List (Nat × Nat)) : Bool :=
  (es.all fun x => decide (x.1 < h) && dstB t.toArray x.1 x.2) && (List.range h).all fun j => match t.toArray[j]? with | some o => (match o.dst with | some d => es.any fun x => x.2 == d | none => true) | none => true
section
variable {P : Program} {a0 : Act} {w0 : World} {id : Nat} {Q : Exit → Act → World → Prop} {t : List Oper} {R : World → World → Prop} {T : Nat → Value → World → Prop}
theorem inv_end {h : Nat} {es : List (Nat × Nat)} {G : Act → Prop} (hE : allB t h es = true) {s : Array Bool} {a : Act} {w : World} (inv : Inv t.toArray R T a0 w0 s a w) (hall : ∀ i, i < h → s.getD i false = true) (htl : ∀ j, h ≤ j → j < t.toArray.size → s.getD j true = false)
    (hQ : Pre T a w es (G (puts a es a0))) : G a := by
  simp only [allB, Bool.and_eq_true] at hE
  have h1 := hQ.out fun x hx => by
    have h5 := List.all_eq_true.1 hE.1 x hx
    simp only [Bool.and_eq_true, decide_eq_true_eq] at h5
    obtain ⟨o, ho, hd⟩ := dstB_spec h5.2
    exact inv.vals x.1 o x.2 ho (hall _ h5.1) hd
  rw [puts_eq inv.tmps.symm inv.defers.symm fun k => ?_] at h1
  · exact h1
  · by_cases e : k ∈ es.map (·.2)
    · exact .inr e
    · refine .inl (inv.old k fun j o hj hl hd => ?_).symm
      have hjh : j < h := Nat.lt_of_not_le fun hle => by
        rw [getD_both (htl j hle (Array.getElem?_eq_some_iff.1 hj).1)] at hl; cases hl
      have h5 := List.all_eq_true.1 hE.2 j (List.mem_range.2 hjh)
      simp only [hj, hd] at h5
      rw [List.any_eq_true] at h5
      obtain ⟨x, hx, hk⟩ := h5
      exact e (List.mem_map.2 ⟨x, hx, by simpa using hk⟩)
/-- The whole region, each operation once; what is behind it begins with the slots as they are then. -/
theorem regionA (Ts : List (Value → World → Prop)) (n : Nat) (plan : List Plan) (es : List (Nat × Nat)) (hm : P.follows .mixedOrders = true) (hn : a0.tmps.size = n) (hB : okB t.toArray n plan = true) (hE : allB t t.length es = true) (hmono : Monos Ts)
    (hob : Obs P Gr (tys Ts) a0 w0 0 t plan) (hQ : ∀ a w, Gr w0 w → Pre (tys Ts) a w es (Q .normal (puts a es a0) w)) : (Code.region id t.toArray true).wp P Q a0 w0 := by
  refine wp_region_any hm (any_of (R := Gr) (T := tys Ts) (a0 := a0) (w0 := w0) hB hn Gr.refl Gr.trans (monos_at hmono) hob (fun s a w inv hall => ?_) _ _ _ _ (by simp) ⟨by simp, fun j oj _ hl => (by rw [getD_replicate_false] at hl; cases hl), Gr.drew w0, rfl, rfl, fun _ _ => rfl, fun j o d _ hl => (by rw [getD_replicate_false] at hl; cases hl)⟩)
  exact inv_end (G := fun a => Q .normal a w) hE inv (fun i hi => hall i (by simpa using hi)) (fun j h1 h2 => by simp at h2; omega) (hQ a w inv.rel)
/-- The first h operations, each once; then the rest, one behind the other. -/
theorem regionB (Ts : List (Value → World → Prop)) (n h : Nat) (plan : List Plan) (es : List (Nat × Nat)) (hm : P.follows .mixedOrders = true) (hn : a0.tmps.size = n) (hB : okB t.toArray n plan = true) (hT : tailB t h = true) (hE : allB t h es = true) (hmono : Monos Ts)
    (hob : Obs P Gr (tys Ts) a0 w0 0 (t.take h) plan) (hQ : ∀ a w, Gr w0 w → Pre (tys Ts) a w es (wpList P t.toArray Q (t.drop h) (puts a es a0) w)) : (Code.region id t.toArray true).wp P Q a0 w0 := by
  simp only [tailB, Bool.and_eq_true, decide_eq_true_eq] at hT
  obtain ⟨⟨⟨h1, h2⟩, h3⟩, h4⟩ := hT
  have h1' : h < t.length := by simpa using h1
  have hsz : h + (t.drop h).length = t.toArray.size := by simp; omega
  have key := any_tail (Q := Q) (R := Gr) (T := tys Ts) (a0 := a0) (w0 := w0) hB hn h1 h2 h3 h4 Gr.refl Gr.trans (monos_at hmono) hob (fun s a w inv hall htl => inv_end (G := fun a => wpList P t.toArray Q (t.drop h) a w) hE inv hall htl (hQ a w inv.rel)) h (Array.replicate t.toArray.size false) a0 { w0 with drawn := w0.drawn + 1 } (by simp; omega) ⟨by simp, fun j oj _ hl => (by rw [getD_replicate_false] at hl; cases hl), Gr.drew w0, rfl, rfl, fun _ _ => rfl, fun j o d _ hl => (by rw [getD_replicate_false] at hl; cases hl)⟩ (fun j _ hj => getD_in (by simpa using hj) (getD_replicate_false _ _))
  rw [hsz] at key
  exact wp_region_any hm key
end
theorem act_lit {a : Act} {n : Nat} {ds : List Deferred} (hs : a.tmps.size = n) (hd : a.defers = ds) : a = ⟨((List.range n).map fun k => a.eval (.tmp k)).toArray, ds⟩ := by
  obtain ⟨ts, df⟩ := a
  simp only at hs hd
  subst hs hd
  congr 1
  apply Array.ext
  · simp
  · intro i h1 h2
    simp [Act.eval, h1]

/-! What one operation does, from what it reads. -/
section
variable {P : Program} {w : World} {V : Value → World → Prop} {ρ : Operand → Value} {o : Oper}
theorem ok_run {v : Value} (h : (execOp ρ o).run P w = .ok (.value v) w) (hv : V v w) : StepOK P Gr V w ((execOp ρ o).run P w) := by
  rw [h]; exact ⟨Gr.refl w, hv⟩
theorem ok_runW {v : Value} {w' : World} (h : (execOp ρ o).run P w = .ok (.value v) w') (hg : Gr w w') (hv : V v w') : StepOK P Gr V w ((execOp ρ o).run P w) := by
  rw [h]; exact ⟨hg, hv⟩
theorem ok_move {x : Operand} (ho : o.op = .move x) (hv : V (ρ x) w) : StepOK P Gr V w ((execOp ρ o).run P w) := by
  refine ok_run (v := ρ x) ?_ hv
  unfold execOp; simp only [ho]; rfl
theorem ok_assign {x : Operand} (ho : o.op = .assign x) (hv : V (ρ x) w) : StepOK P Gr V w ((execOp ρ o).run P w) := by
  refine ok_run (v := ρ x) ?_ hv
  unfold execOp; simp only [ho]; rfl
theorem ok_pick {c x y : Operand} {b : Bool} (ho : o.op = .pick c x y) (hc : ρ c = .bool b) (hv : V (if b then ρ x else ρ y) w) : StepOK P Gr V w ((execOp ρ o).run P w) := by
  refine ok_run (v := if b then ρ x else ρ y) ?_ hv
  unfold execOp; simp only [ho, hc]; rfl
theorem ok_convert {s d : TypeId} {x : Operand} {u v : Value} (ho : o.op = .convert s d x) (hx : ρ x = u) (hr : (convert s d u).run P w = .ok v w) (hv : V v w) : StepOK P Gr V w ((execOp ρ o).run P w) := by
  refine ok_run (v := v) ?_ hv
  unfold execOp
  simp only [ho, hx]
  simp only [Sem.run_bind, hr]
  rfl
theorem ok_call {a : Act} {f : FuncId} {xs : Array Operand} {ts : Array TypeId} (ho : o.op = .call { callee := .value (.func f), args := xs, argTypes := ts }) (vs : Array Value) (hen : (callFunc f vs).run P w = .ok (.enter f vs) w) (hv : xs.map a.eval = vs)
    (hc : Calls P f vs w fun e w' => ∃ v, e = .returned v ∧ Gr w w' ∧ V v w') : StepOK P Gr V w ((execOp a.eval o).run P w) := by
  obtain ⟨dst, op, ty, pos, after, guard⟩ := o
  simp only at ho
  subst ho
  rw [execOp_call_go, hv]
  have e : #[] ++ vs ++ #[] = vs := by simp
  rw [e, hen]
  exact hc
end
end Gt
