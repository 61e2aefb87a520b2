/- A region that leaves its order open, inside a round of a range over a function: where all operations but the last few only read (callees may draw), and those come in one forced order, one walk in the order of the text serves every order. -/
import Derived.StillTail
import Derived.Deep.QuietTactic
import Derived.OrdersIn
import Derived.RangeFuncCalls
import Derived.OwnWalkIn
namespace Gq
open Go

section
variable {P : Program} {ops : Array Oper} {md : Region.Mode} {C : World → Prop} {l m : Nat}

/-- What is asked of an operation that only reads, inside a round of the wide fence. -/
theorem opIn_of_quiet {i : Nat} {a : Act} {K : Act → Prop} {K' : Act → World → Prop} {Q' : Exit → Act → World → Prop} {w : World} (hd : ∀ (o : Oper), ops[i]? = some o → ∀ c, o.op ≠ .defer c) (hC : C w) (h : ∀ a w', C w' → K a → K' a w')
    (hh : qOp P ops C i K a) : wpOpIn (Fence.wide.inRound l) m P ops Q' i K' a w := by
  unfold qOp at hh
  unfold wpOpIn
  cases ho : ops[i]? with
  | none => simp only [ho] at hh; exact h _ _ hC hh
  | some o =>
    simp only [ho] at hh
    by_cases hw : Region.wanted o (yielded ops a.tmps) = true
    · simp only [hw, if_true] at hh ⊢
      obtain ⟨v, h1, h2⟩ := hh
      have h3 := h1 w hC
      refine ⟨fun _ _ => trivial, ?_⟩
      rw [Oper.semAt_plain _ _ _ (hd o ho)]
      unfold Oper.quietAt at h3
      cases hr : (execOp a.eval o).run P w with
      | ok x w' =>
        rw [hr] at h3
        cases x with
        | value u => obtain ⟨e1, e2⟩ := h3; subst e1 e2; exact h _ _ hC h2
        | skip => obtain ⟨e1, e2⟩ := h3; subst e1 e2; exact h _ _ hC h2
        | enter f args =>
          obtain ⟨e1, hc⟩ := h3
          subst e1
          refine ⟨fun hx => by simp [Fence.wide] at hx, CallsIn.inRound l (callsIn_wide.2 (hc.mono fun e w'' he => ?_))⟩
          obtain ⟨he, hw''⟩ := he
          subst he
          exact h _ _ hw'' h2
        | _ => exact h3.elim
      | halt x w' => rw [hr] at h3; exact h3.elim
    · simp only [hw] at hh ⊢
      exact ⟨fun _ _ => trivial, h _ _ hC hh⟩

/-- Whatever order the first n operations come in; what is behind them is L. -/
def hdAny (P : Program) (md : Region.Mode) (ops : Array Oper) (C : World → Prop) (n : Nat) (L : Array Bool → Act → Prop) : Nat → Array Bool → Act → Prop
  | 0, s, a => L s a
  | f + 1, s, a => Region.ready md ops s ≠ [] ∧ ∀ i ∈ Region.ready md ops s, i < n ∧ qOp P ops C i (hdAny P md ops C n L f (s.setIfInBounds i true)) a
theorem hdAny_in {n g : Nat} {L : Array Bool → Act → Prop} {Q' : Exit → Act → World → Prop} (hd : ∀ (i : Nat) (o : Oper), ops[i]? = some o → ∀ c, o.op ≠ .defer c) (hL : ∀ s a w, C w → L s a → wpAnyIn (Fence.wide.inRound l) m P md ops Q' g s a w) :
    ∀ (f : Nat) (s : Array Bool) (a : Act) (w : World), C w → hdAny P md ops C n L f s a → wpAnyIn (Fence.wide.inRound l) m P md ops Q' (f + g) s a w := by
  intro f
  induction f with
  | zero => intro s a w hw h; rw [Nat.zero_add]; exact hL s a w hw h
  | succ f ih =>
    intro s a w hw h
    rw [show f + 1 + g = (f + g) + 1 from by omega]
    exact ⟨fun h0 => absurd h0 h.1, fun i hi => opIn_of_quiet (hd i) hw (fun a' w' hw' h' => ih _ a' w' hw' h') (h.2 i hi).2⟩
/-- One that may come now may come first. -/
theorem hdAny_take {n i : Nat} {oi : Oper} {v : Value} {L : Array Bool → Act → Prop} (hi : ops[i]? = some oi) (hsel : ∀ (j : Nat) (o : Oper) cs b, ops[j]? = some o → o.op ≠ .select cs b)
    (hs : Region.sinkB md ops n = true) (hc : Region.chainB md ops n = true) (hn : n < ops.size) (hin : i < n) (hdone : ∀ s a, L s a → ∀ j ∈ Region.ready md ops s, n ≤ j) (f : Nat) :
    ∀ (s : Array Bool) (a : Act), HeadInv md ops n s → (∀ j oj, ops[j]? = some oj → j ≠ i → s.getD j true = false → (∀ e ∈ oj.after, Region.binds md e = true → e.on ≠ i) → oi.apart ops oj = true) →
      i ∈ Region.ready md ops s → YieldsIn P ops C oi v a → hdAny P md ops C n L f (s.setIfInBounds i true) (a.put oi.dst v) → hdAny P md ops C n L (f + 1) s a := by
  induction f with
  | zero =>
    intro s a inv _ hr hy H
    have hun := (mem_ready.1 hr).1
    refine ⟨fun h => (by rw [h] at hr; cases hr), fun j hj => ?_⟩
    have hjn : j < n := Nat.lt_of_not_le fun h => tail_waits hs hc hn inv _ i rfl hin hun j h hj
    refine ⟨hjn, ?_⟩
    by_cases hji : j = i
    · subst hji; exact hy.qOp hi H
    · have := hdone _ _ H j (ready_mono hj hji); omega
  | succ f ih =>
    intro s a inv hfree hr hy H
    have hun := (mem_ready.1 hr).1
    refine ⟨fun h => (by rw [h] at hr; cases hr), fun j hj => ?_⟩
    have hjn : j < n := Nat.lt_of_not_le fun h => tail_waits hs hc hn inv _ i rfl hin hun j h hj
    refine ⟨hjn, ?_⟩
    by_cases hji : j = i
    · subst hji; exact hy.qOp hi H
    · obtain ⟨hjun, oj, hoj, hall⟩ := mem_ready.1 hj
      have hnot : ∀ e ∈ oj.after, Region.binds md e = true → e.on ≠ i := fun e he hb heq => by
        have h1 := hall e he hb
        rw [heq, getD_both hun] at h1
        cases h1
      have h2 := qOp_put hoj (hfree j oj hoj hji hjun hnot) (fun cs b => hsel i oi cs b hi) (fun cs b => hsel j oj cs b hoj) hy (H.2 j (ready_mono hj hji)).2
      refine qOp_mono (fun a' h3 => ih (s.setIfInBounds j true) a' (inv.set hj hjn) (fun k ok hk hki hku hno => ?_) (ready_mono hr (Ne.symm hji)) h3.1 ?_) h2
      · refine hfree k ok hk hki ?_ hno
        by_cases hjk : j = k
        · subst hjk; exact hjun
        · rw [getD_set_ne true hjk] at hku; exact hku
      · rw [Array.setIfInBounds_comm _ _ hji]; exact h3.2
/-- The first n in the text's order. -/
theorem hdAny_lex {n g : Nat} {Lq : Act → Prop} (hsel : Region.noSelect ops = true) (hs : Region.sinkB md ops n = true) (hc : Region.chainB md ops n = true) (hn : n < ops.size) (t : List Oper) :
    ∀ (k : Nat) (s : Array Bool) (a : Act), (∀ j, j < t.length → t[j]? = ops[k + j]?) → k + t.length = n → HeadInv md ops n s → Region.lexHead md ops g t.length k s = true → wpQuiet P ops C Lq t a →
      hdAny P md ops C n (fun s' a' => Region.seqB md ops g n s' = true ∧ Lq a') t.length s a := by
  induction t with
  | nil =>
    intro k s a _ hk _ hB h
    obtain rfl : k = n := by simpa using hk
    exact ⟨hB, h⟩
  | cons o t ih =>
    intro k s a hl hk inv hB h
    have h0 : ops[k]? = some o := by simpa using (hl 0 (by simp)).symm
    simp only [List.length_cons] at hk
    simp only [List.length_cons, Region.lexHead, Bool.and_eq_true] at hB
    obtain ⟨⟨hr, hf⟩, hB'⟩ := hB
    have hr' : k ∈ Region.ready md ops s := by simpa using hr
    have hst : qOp P ops C k (wpQuiet P ops C Lq t) a := by unfold qOp; simp only [h0]; exact h
    obtain ⟨v, hy, hK⟩ := yieldsIn_of_qOp h0 hst
    exact hdAny_take h0 (Region.noSelect_spec hsel) hs hc hn (by omega) (fun s' a' hL => seqB_ready hL.1) t.length s a inv (Region.free_spec h0 hf) hr' hy
      (ih (k + 1) _ _ (fun j hj => by have := hl (j + 1) (by simp; omega); simpa [Nat.add_assoc, Nat.add_comm 1 j] using this) (by omega) (inv.set hr' (by omega)) hB' hK)
/-- The last ones, in their forced order. -/
theorem anyIn_of_seq {F : Fence} {Q' : Exit → Act → World → Prop} (t : List Oper) :
    ∀ (k : Nat) (s : Array Bool) (a : Act) (w : World), (∀ j, t[j]? = ops[k + j]?) → Region.seqB md ops t.length k s = true → wpListIn F m P ops Q' t a w → wpAnyIn F m P md ops Q' t.length s a w := by
  induction t with
  | nil => intro k s a w _ hB h; exact ⟨by simpa [Region.seqB] using hB, h⟩
  | cons o t ih =>
    intro k s a w hl hB h
    have h0 : ops[k]? = some o := by simpa using (hl 0).symm
    simp only [List.length_cons, Region.seqB, Bool.and_eq_true, decide_eq_true_eq] at hB
    refine ⟨fun h1 => (by rw [hB.1] at h1; cases h1), fun i hi => ?_⟩
    rw [hB.1] at hi
    obtain rfl : i = k := by simpa using hi
    have hw : wpOpIn F m P ops Q' i (wpListIn F m P ops Q' t) a w := by unfold wpOpIn; simp only [h0]; exact h
    exact wpOpIn_mono (fun a' w' h' => ih (i + 1) _ a' w' (fun j => by have := hl (j + 1); simpa [Nat.add_assoc, Nat.add_comm 1 j] using this) hB.2 h') hw
/-- No operation defers. -/
def noDefer (t : List Oper) : Bool := t.all fun o => match o.op with | .defer _ => false | _ => true
theorem noDefer_spec {t : List Oper} (h : noDefer t = true) : ∀ (i : Nat) (o : Oper), t.toArray[i]? = some o → ∀ c, o.op ≠ .defer c := fun i o ho c e => by
  have h1 := List.all_eq_true.1 h o (List.mem_of_getElem? (by simpa using ho))
  rw [e] at h1
  cases h1
/-- **One walk for the first n operations; then the rest.** -/
theorem region_round {id : Nat} {Q : Exit → Act → World → Prop} {a : Act} {w : World} {t : List Oper} (n : Nat) (hm : P.follows .mixedOrders = true) (hB : Region.lexTailB .any t.toArray n = true) (hd : noDefer t = true)
    (h : wpQuiet P t.toArray (fun w' => ∃ k, w' = w.drewN k) (fun a' => ∀ w', (∃ k, w' = w.drewN k) → wpListIn (Fence.wide.inRound l) m P t.toArray Q (t.drop n) a' w') (t.take n) a) :
    (Code.region id t.toArray true).wpIn (Fence.wide.inRound l) m P Q a w := by
  simp only [Region.lexTailB, Bool.and_eq_true, decide_eq_true_eq] at hB
  obtain ⟨⟨⟨⟨hsel, hn⟩, hs⟩, hc⟩, hlex⟩ := hB
  have hn' : n < t.length := by simpa using hn
  have htl : (t.take n).length = n := by simp; omega
  have hdl : (t.drop n).length = t.toArray.size - n := by simp
  have inv0 : HeadInv .any t.toArray n (Array.replicate t.toArray.size false) :=
    ⟨by simp, fun j oj _ hl => (by rw [getD_replicate_false] at hl; cases hl), fun i _ hi => getD_in (by simpa using hi) (getD_replicate_false _ _)⟩
  have H := hdAny_lex (md := .any) (g := t.toArray.size - n) hsel hs hc hn (t.take n) 0 _ a (fun j hj => by
    have hj' : j < n := by rw [htl] at hj; exact hj
    simp [hj']) (by simpa using htl) inv0 (by rw [htl]; exact hlex) h
  refine wpIn_region_any hm ?_
  have := hdAny_in (l := l) (m := m) (Q' := Q) (g := t.toArray.size - n) (noDefer_spec hd) (fun s a' w' hw' hL => by
    have := anyIn_of_seq (F := Fence.wide.inRound l) (m := m) (md := .any) (Q' := Q) (t.drop n) n s a' w' (fun j => by simp [List.getElem?_drop]) (by rw [hdl]; exact hL.1) (hL.2 w' hw')
    rwa [hdl] at this) _ _ _ { w with drawn := w.drawn + 1 } ⟨1, rfl⟩ H
  rw [htl, show n + (t.toArray.size - n) = t.toArray.size from by omega] at this
  exact this
/-- Where all only read. -/
theorem anyIn_of_quiet {Q : Act → Prop} {Q' : Exit → Act → World → Prop} (hd : ∀ (i : Nat) (o : Oper), ops[i]? = some o → ∀ c, o.op ≠ .defer c) (hQ : ∀ a w, C w → Q a → Q' .normal a w) (f : Nat) :
    ∀ (s : Array Bool) (a : Act) (w : World), C w → wpAnyQ P md ops C Q f s a → wpAnyIn (Fence.wide.inRound l) m P md ops Q' f s a w := by
  induction f with
  | zero => intro s a w hw h; exact ⟨h.1, hQ _ _ hw h.2⟩
  | succ f ih => intro s a w hw h; exact ⟨fun h0 => hQ _ _ hw (h.1 h0), fun i hi => opIn_of_quiet (hd i) hw (fun a' w' hw' h' => ih _ a' w' hw' h') (h.2 i hi)⟩
theorem region_round_all {id : Nat} {Q : Exit → Act → World → Prop} {a : Act} {w : World} {t : List Oper} (hm : P.follows .mixedOrders = true) (hB : Region.lexB .any t.toArray = true) (hd : noDefer t = true) (hC : C { w with drawn := w.drawn + 1 })
    (h : wpQuiet P t.toArray C (fun a' => ∀ w', C w' → Q .normal a' w') t a) : (Code.region id t.toArray true).wpIn (Fence.wide.inRound l) m P Q a w := by
  simp only [Region.lexB, Bool.and_eq_true] at hB
  refine wpIn_region_any hm (anyIn_of_quiet (Q := fun a' => ∀ w', C w' → Q .normal a' w') (noDefer_spec hd) (fun _ w' hw' h => h w' hw') _ _ _ _ hC ?_)
  have := wpAnyQ_lex (C := C) (md := .any) hB.1 t 0 (Array.replicate t.toArray.size false) a (by simp) (by simpa using hB.2) h
  simpa using this
end
end Gq
