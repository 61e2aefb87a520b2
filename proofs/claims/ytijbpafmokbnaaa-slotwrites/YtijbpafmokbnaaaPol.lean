/- Polynomials over the field of 256 elements as lists of numbers: values, sums, products, roots, the one polynomial through points; no program is named here. -/
import Derived.Test.YtijbpafmokbnaaaMath
namespace Pol
open Gf

/-- All are bytes. -/
def BB (p : List Nat) : Prop := ∀ x ∈ p, x < 256
theorem BB.nil : BB [] := fun _ h => by cases h
theorem BB.cons {a : Nat} {p : List Nat} (ha : a < 256) (h : BB p) : BB (a :: p) := fun x hx => by
  cases hx with
  | head => exact ha
  | tail _ hx => exact h x hx
theorem BB.head {a : Nat} {p : List Nat} (h : BB (a :: p)) : a < 256 := h a (by simp)
theorem BB.tail {a : Nat} {p : List Nat} (h : BB (a :: p)) : BB p := fun x hx => h x (by simp [hx])
theorem BB.append {p q : List Nat} (h : BB p) (k : BB q) : BB (p ++ q) := fun x hx => (List.mem_append.1 hx).elim (h x) (k x)
theorem BB.take {p : List Nat} (h : BB p) (n : Nat) : BB (p.take n) := fun x hx => h x (List.mem_of_mem_take hx)
theorem BB.drop {p : List Nat} (h : BB p) (n : Nat) : BB (p.drop n) := fun x hx => h x (List.mem_of_mem_drop hx)
theorem BB.get {p : List Nat} (h : BB p) {i : Nat} (hi : i < p.length) : p[i] < 256 := h _ (List.getElem_mem hi)

/-- The coefficient of x to the power i. -/
def co (p : List Nat) (i : Nat) : Nat := p.getD i 0
theorem co_nil (i : Nat) : co [] i = 0 := by simp [co]
theorem co_zero (a : Nat) (p : List Nat) : co (a :: p) 0 = a := by simp [co]
theorem co_succ (a : Nat) (p : List Nat) (i : Nat) : co (a :: p) (i + 1) = co p i := by simp [co]
theorem co_get {p : List Nat} {i : Nat} (hi : i < p.length) : co p i = p[i] := by simp [co, hi]
theorem co_far {p : List Nat} {i : Nat} (hi : p.length ≤ i) : co p i = 0 := by simp [co, hi]
theorem BB.co {p : List Nat} (h : BB p) (i : Nat) : co p i < 256 := by
  by_cases hi : i < p.length
  · rw [co_get hi]; exact h.get hi
  · rw [co_far (by omega)]; omega
theorem co_drop (p : List Nat) (n i : Nat) : co (p.drop n) i = co p (n + i) := by simp [co, List.getElem?_drop]
theorem co_append_left {p q : List Nat} {i : Nat} (h : i < p.length) : co (p ++ q) i = co p i := by simp [co, List.getElem?_append_left h]
theorem co_append_right {p q : List Nat} {i : Nat} (h : p.length ≤ i) : co (p ++ q) i = co q (i - p.length) := by simp [co, List.getElem?_append_right h]
theorem co_take {p : List Nat} {n i : Nat} (h : i < n) : co (p.take n) i = co p i := by simp [co, h]
theorem co_take_far {p : List Nat} {n i : Nat} (h : n ≤ i) : co (p.take n) i = 0 := by simp [co, List.getElem?_take, Nat.not_lt.2 h]

/-- Without noughts at the end. -/
def tr : List Nat → List Nat
  | [] => []
  | a :: p => if tr p = [] ∧ a = 0 then [] else a :: tr p
theorem co_tr (p : List Nat) (i : Nat) : co (tr p) i = co p i := by
  induction p generalizing i with
  | nil => rfl
  | cons a p ih =>
    unfold tr
    by_cases h : tr p = [] ∧ a = 0
    · rw [if_pos h, co_nil]
      cases i with
      | zero => rw [co_zero, h.2]
      | succ i => rw [co_succ, ← ih i, h.1, co_nil]
    · rw [if_neg h]
      cases i with
      | zero => rw [co_zero, co_zero]
      | succ i => rw [co_succ, co_succ, ih]
theorem tr_len (p : List Nat) : (tr p).length ≤ p.length := by
  induction p with
  | nil => exact Nat.le_refl _
  | cons a p ih =>
    unfold tr
    by_cases h : tr p = [] ∧ a = 0
    · rw [if_pos h]; simp
    · rw [if_neg h]; simp; exact ih
theorem tr_nil_iff (p : List Nat) : tr p = [] ↔ ∀ i, co p i = 0 := by
  constructor
  · intro h i; rw [← co_tr, h, co_nil]
  · intro h
    induction p with
    | nil => rfl
    | cons a p ih =>
      have h0 := h 0
      rw [co_zero] at h0
      have h1 := ih (fun i => by have := h (i + 1); rwa [co_succ] at this)
      unfold tr; rw [if_pos ⟨h1, h0⟩]
theorem tr_ext {p q : List Nat} (h : ∀ i, co p i = co q i) : tr p = tr q := by
  induction p generalizing q with
  | nil => symm; exact (tr_nil_iff q).2 (fun i => by rw [← h i, co_nil])
  | cons a p ih =>
    cases q with
    | nil => exact (tr_nil_iff _).2 (fun i => by rw [h i, co_nil])
    | cons b q =>
      have h0 := h 0
      rw [co_zero, co_zero] at h0
      have h1 := ih (q := q) (fun i => by have := h (i + 1); rwa [co_succ, co_succ] at this)
      unfold tr; rw [h1, h0]
theorem tr_tr (p : List Nat) : tr (tr p) = tr p := tr_ext (co_tr p)
theorem tr_bb {p : List Nat} (h : BB p) : BB (tr p) := by
  induction p with
  | nil => exact h
  | cons a p ih =>
    unfold tr
    by_cases e : tr p = [] ∧ a = 0
    · rw [if_pos e]; exact BB.nil
    · rw [if_neg e]; exact BB.cons h.head (ih h.tail)
/-- What is cut behind the last byte that is not 0. -/
theorem tr_take (p : List Nat) (n : Nat) (hn : n ≤ p.length) (hz : ∀ i, n ≤ i → co p i = 0) (hl : n = 0 ∨ co p (n - 1) ≠ 0) : tr p = p.take n := by
  induction p generalizing n with
  | nil => simp at hn; subst hn; rfl
  | cons a p ih =>
    cases n with
    | zero => exact (tr_nil_iff _).2 (fun i => hz i (Nat.zero_le _))
    | succ n =>
      have hz' : ∀ i, n ≤ i → co p i = 0 := fun i hi => by have := hz (i + 1) (by omega); rwa [co_succ] at this
      have hn' : n ≤ p.length := by simpa using hn
      rw [List.take_succ_cons]
      cases n with
      | zero =>
        have ha : a ≠ 0 := by rcases hl with h | h; · omega
                              · simpa [co_zero] using h
        have e : tr p = [] := (tr_nil_iff p).2 (fun i => hz' i (Nat.zero_le _))
        unfold tr; rw [if_neg (by simp [ha]), e]; rfl
      | succ n =>
        have hl' : n + 1 = 0 ∨ co p (n + 1 - 1) ≠ 0 := .inr (by rcases hl with h | h; · omega
                                                                · simpa [co_succ] using h)
        have e := ih (n + 1) hn' hz' hl'
        have ne : tr p ≠ [] := fun h0 => by
          have := (tr_nil_iff p).1 h0 n
          rcases hl' with h | h; · omega
          · simp at h; exact h this
        unfold tr; rw [if_neg (by simp [ne]), e]
theorem tr_last {p : List Nat} (h : tr p ≠ []) : co p ((tr p).length - 1) ≠ 0 := by
  induction p with
  | nil => exact absurd rfl h
  | cons a p ih =>
    unfold tr at h ⊢
    by_cases e : tr p = [] ∧ a = 0
    · rw [if_pos e] at h; exact absurd rfl h
    · rw [if_neg e]
      by_cases e2 : tr p = []
      · have : a ≠ 0 := fun h0 => e ⟨e2, h0⟩
        simp [e2, co_zero, this]
      · have h2 := ih e2
        have h3 : 0 < (tr p).length := List.length_pos_iff.2 e2
        rw [List.length_cons, show (tr p).length + 1 - 1 = ((tr p).length - 1) + 1 from by omega, co_succ]
        exact h2
theorem co_trlen {p : List Nat} {i : Nat} (h : (tr p).length ≤ i) : co p i = 0 := by rw [← co_tr]; exact co_far h

/-- The value. -/
def ev (x : Nat) : List Nat → Nat
  | [] => 0
  | a :: p => a ^^^ gm x (ev x p)
theorem ev_lt {p : List Nat} (h : BB p) (x : Nat) : ev x p < 256 := by
  cases p with
  | nil => simp [ev]
  | cons a p => exact xor_lt h.head (gm_lt _ _)
theorem ev_zero {p : List Nat} (x : Nat) (h : ∀ i, co p i = 0) : ev x p = 0 := by
  induction p with
  | nil => rfl
  | cons a p ih =>
    have h0 := h 0
    rw [co_zero] at h0
    have h1 := ih (fun i => by have := h (i + 1); rwa [co_succ] at this)
    simp [ev, h0, h1, gm_zero_right]
theorem ev_tr (x : Nat) (p : List Nat) : ev x (tr p) = ev x p := by
  induction p with
  | nil => rfl
  | cons a p ih =>
    unfold tr
    by_cases h : tr p = [] ∧ a = 0
    · rw [if_pos h]
      have h1 : ev x p = 0 := by rw [← ih, h.1]; rfl
      simp [ev, h.2, h1, gm_zero_right]
    · rw [if_neg h]; simp only [ev, ih]
theorem ev_ext {p q : List Nat} (x : Nat) (h : ∀ i, co p i = co q i) : ev x p = ev x q := by rw [← ev_tr, ← ev_tr x q, tr_ext h]

/-- The sum. -/
def add : List Nat → List Nat → List Nat
  | [], q => q
  | p, [] => p
  | a :: p, b :: q => (a ^^^ b) :: add p q
theorem add_nil (p : List Nat) : add p [] = p := by cases p <;> rfl
theorem nil_add (p : List Nat) : add [] p = p := by cases p <;> rfl
theorem co_add (p q : List Nat) (i : Nat) : co (add p q) i = co p i ^^^ co q i := by
  induction p generalizing q i with
  | nil => rw [nil_add, co_nil, Nat.zero_xor]
  | cons a p ih =>
    cases q with
    | nil => rw [add_nil, co_nil, Nat.xor_zero]
    | cons b q =>
      cases i with
      | zero => simp only [add, co_zero]
      | succ i => simp only [add, co_succ, ih]
theorem add_bb {p q : List Nat} (h : BB p) (k : BB q) : BB (add p q) := by
  induction p generalizing q with
  | nil => rw [nil_add]; exact k
  | cons a p ih =>
    cases q with
    | nil => rw [add_nil]; exact h
    | cons b q => exact BB.cons (xor_lt h.head k.head) (ih h.tail k.tail)
theorem add_len (p q : List Nat) : (add p q).length = max p.length q.length := by
  induction p generalizing q with
  | nil => rw [nil_add]; simp
  | cons a p ih =>
    cases q with
    | nil => rw [add_nil]; simp
    | cons b q => simp only [add, List.length_cons, ih]; omega
theorem xor_move (a b c d : Nat) : (a ^^^ b) ^^^ (c ^^^ d) = (a ^^^ c) ^^^ (b ^^^ d) := xor4 a b c d
theorem ev_add {p q : List Nat} (hp : BB p) (hq : BB q) {x : Nat} (hx : x < 256) : ev x (add p q) = ev x p ^^^ ev x q := by
  induction p generalizing q with
  | nil => rw [nil_add]; simp [ev]
  | cons a p ih =>
    cases q with
    | nil => rw [add_nil]; simp [ev]
    | cons b q =>
      simp only [add, ev, ih hp.tail hq.tail]
      rw [gm_xor_right hx (ev_lt hp.tail x) (ev_lt hq.tail x), xor4]

/-- Times a byte. -/
def sm (c : Nat) (p : List Nat) : List Nat := p.map (gm c)
theorem co_sm (c : Nat) (p : List Nat) (i : Nat) : co (sm c p) i = gm c (co p i) := by
  unfold co sm
  by_cases h : i < p.length
  · simp [h]
  · simp [Nat.not_lt.1 h, gm_zero_right]
theorem sm_bb (c : Nat) (p : List Nat) : BB (sm c p) := fun x hx => by
  obtain ⟨y, _, rfl⟩ := List.mem_map.1 hx; exact gm_lt _ _
theorem sm_len (c : Nat) (p : List Nat) : (sm c p).length = p.length := by simp [sm]
theorem ev_sm {c x : Nat} {p : List Nat} (hc : c < 256) (hx : x < 256) (hp : BB p) : ev x (sm c p) = gm c (ev x p) := by
  induction p with
  | nil => simp [sm, ev, gm_zero_right]
  | cons a p ih =>
    show gm c a ^^^ gm x (ev x (sm c p)) = gm c (a ^^^ gm x (ev x p))
    rw [ih hp.tail, gm_xor_right hc hp.head (gm_lt _ _), ← gm_assoc hx hc (ev_lt hp.tail x), gm_comm x c, gm_assoc hc hx (ev_lt hp.tail x)]

/-- The product. -/
def mul : List Nat → List Nat → List Nat
  | [], _ => []
  | a :: p, q => add (sm a q) (0 :: mul p q)
theorem mul_bb (p q : List Nat) : BB (mul p q) := by
  induction p with
  | nil => exact BB.nil
  | cons a p ih => exact add_bb (sm_bb a q) (BB.cons (by omega) ih)
theorem ev_mul {p q : List Nat} (hp : BB p) (hq : BB q) {x : Nat} (hx : x < 256) : ev x (mul p q) = gm (ev x p) (ev x q) := by
  induction p with
  | nil => simp [mul, ev, gm_zero_left]
  | cons a p ih =>
    unfold mul
    rw [ev_add (sm_bb a q) (BB.cons (by omega) (mul_bb p q)) hx, ev_sm hp.head hx hq]
    show gm a (ev x q) ^^^ (0 ^^^ gm x (ev x (mul p q))) = gm (a ^^^ gm x (ev x p)) (ev x q)
    rw [ih hp.tail, Nat.zero_xor, gm_xor_left hp.head (gm_lt _ _) (ev_lt hq x), gm_assoc hx (ev_lt hp.tail x) (ev_lt hq x)]
theorem co_mul_nil (p : List Nat) (i : Nat) : co (mul p []) i = 0 := by
  induction p generalizing i with
  | nil => rfl
  | cons a p ih =>
    unfold mul; rw [co_add]
    cases i with
    | zero => simp [sm, co]
    | succ i => rw [co_succ, ih]; simp [sm, co]
/-- One more power of the left side. -/
theorem co_mul_snoc (p : List Nat) (a : Nat) (q : List Nat) (k : Nat) : co (mul (p ++ [a]) q) k = co (mul p q) k ^^^ (if p.length ≤ k then gm a (co q (k - p.length)) else 0) := by
  induction p generalizing k with
  | nil =>
    show co (mul [a] q) k = co [] k ^^^ _
    unfold mul; rw [co_add, co_sm, co_nil]
    have : co (0 :: mul [] q) k = 0 := by cases k <;> simp [co, mul]
    rw [this]; simp
  | cons b p ih =>
    show co (add (sm b q) (0 :: mul (p ++ [a]) q)) k = co (add (sm b q) (0 :: mul p q)) k ^^^ _
    rw [co_add, co_add]
    cases k with
    | zero => simp [co_zero]
    | succ k =>
      rw [co_succ, co_succ, ih, Nat.xor_assoc]
      simp
theorem mul_len (p q : List Nat) : (mul p q).length ≤ p.length + q.length := by
  induction p with
  | nil => simp [mul]
  | cons a p ih => simp only [mul, add_len, sm_len, List.length_cons]; omega

/-! Roots. -/
def qs (a : Nat) : List Nat → List Nat
  | [] => []
  | _ :: p => ev a p :: qs a p
theorem qs_bb (a : Nat) {p : List Nat} (h : BB p) : BB (qs a p) := by
  induction p with
  | nil => exact BB.nil
  | cons b p ih => exact BB.cons (ev_lt h.tail a) (ih h.tail)
theorem co_qs (a : Nat) (p : List Nat) (i : Nat) : co (qs a p) i = ev a (p.drop (i + 1)) := by
  induction p generalizing i with
  | nil => simp [qs, co, ev]
  | cons b p ih =>
    cases i with
    | zero => simp [qs, co]
    | succ i => simp only [qs, co_succ, ih]; rfl
theorem ev_qs {a x : Nat} (ha : a < 256) (hx : x < 256) {p : List Nat} (h : BB p) : ev x p ^^^ ev a p = gm (x ^^^ a) (ev x (qs a p)) := by
  induction p with
  | nil => simp [ev, qs, gm_zero_right]
  | cons b p ih =>
    have hxa := xor_lt hx ha
    have h1 := ev_lt h.tail a
    have h2 := ev_lt h.tail x
    show (b ^^^ gm x (ev x p)) ^^^ (b ^^^ gm a (ev a p)) = gm (x ^^^ a) (ev a p ^^^ gm x (ev x (qs a p)))
    rw [gm_xor_right hxa h1 (gm_lt _ _), ← gm_assoc hxa hx (ev_lt (qs_bb a h.tail) x), gm_comm (x ^^^ a) x, gm_assoc hx hxa (ev_lt (qs_bb a h.tail) x), ← ih h.tail, gm_xor_left hx ha h1, gm_xor_right hx h2 h1, xor4, Nat.xor_self, Nat.zero_xor]
    generalize gm x (ev x p) = A
    generalize gm a (ev a p) = B
    generalize gm x (ev a p) = C
    rw [Nat.xor_comm C B, Nat.xor_comm A C, Nat.xor_assoc, ← Nat.xor_assoc C C A, Nat.xor_self, Nat.zero_xor, Nat.xor_comm]
/-- The degree is below n. -/
def Dg (p : List Nat) (n : Nat) : Prop := ∀ i, n ≤ i → co p i = 0
theorem Dg.len {p : List Nat} {n : Nat} (h : p.length ≤ n) : Dg p n := fun _ hi => co_far (by omega)
theorem Dg.mono {p : List Nat} {n m : Nat} (h : Dg p n) (hm : n ≤ m) : Dg p m := fun i hi => h i (by omega)
theorem Dg.tr {p : List Nat} {n : Nat} (h : Dg p n) : (tr p).length ≤ n := by
  by_cases e : Pol.tr p = []
  · rw [e]; simp
  · have := tr_last e
    rcases Nat.lt_or_ge n (Pol.tr p).length with h1 | h1
    · exact absurd (h _ (by omega)) this
    · exact h1
theorem Dg.add {p q : List Nat} {n : Nat} (h : Dg p n) (k : Dg q n) : Dg (add p q) n := fun i hi => by rw [co_add, h i hi, k i hi]; rfl
theorem ev_split (a : Nat) (p : List Nat) (i : Nat) : ev a (p.drop i) = co p i ^^^ gm a (ev a (p.drop (i + 1))) := by
  by_cases h : i < p.length
  · rw [List.drop_eq_getElem_cons h, co_get h]; rfl
  · rw [List.drop_eq_nil_of_le (by omega), List.drop_eq_nil_of_le (by omega), co_far (by omega)]; simp [ev, gm_zero_right]
theorem xor_eq_zero {a b : Nat} (h : a ^^^ b = 0) : a = b := by
  have : (a ^^^ b) ^^^ b = b := by rw [h, Nat.zero_xor]
  rwa [Nat.xor_assoc, Nat.xor_self, Nat.xor_zero] at this
/-- A polynomial of a degree below n with n roots is 0. -/
theorem no_roots {n : Nat} {p xs : List Nat} (hp : BB p) (hd : Dg p n) (hx : BB xs) (hn : xs.Nodup) (hl : n ≤ xs.length) (hr : ∀ x ∈ xs, ev x p = 0) : ∀ i, co p i = 0 := by
  induction n generalizing p xs with
  | zero => exact fun i => hd i (Nat.zero_le _)
  | succ n ih =>
    cases xs with
    | nil => simp at hl
    | cons a xs =>
      have ha := hx.head
      have hra := hr a (by simp)
      have hq : ∀ i, co (qs a p) i = 0 := by
        refine ih (qs_bb a hp) ?_ hx.tail (List.nodup_cons.1 hn).2 (by simpa using hl) ?_
        · intro i hi
          rw [co_qs]
          exact ev_zero a (fun j => by rw [co_drop]; exact hd _ (by omega))
        · intro x hxs
          have hxb := hx.tail x hxs
          have hne : x ≠ a := fun e => (List.nodup_cons.1 hn).1 (e ▸ hxs)
          have h1 := ev_qs ha hxb hp
          rw [hr x (by simp [hxs]), hra, Nat.xor_self] at h1
          rcases gm_eq_zero.1 h1.symm with h2 | h2
          · exact absurd (xor_eq_zero h2) hne
          · exact h2
      intro i
      have e1 := ev_split a p i
      have e2 := hq i
      rw [co_qs] at e2
      rw [e2, gm_zero_right, Nat.xor_zero] at e1
      cases i with
      | zero => rw [← e1]; simpa using hra
      | succ i => have e3 := hq i; rw [co_qs] at e3; rw [← e1, e3]
/-- Two polynomials of a degree below n that agree at n points are one. -/
theorem unique {n : Nat} {p q xs : List Nat} (hp : BB p) (hq : BB q) (hdp : Dg p n) (hdq : Dg q n) (hx : BB xs) (hn : xs.Nodup) (hl : n ≤ xs.length) (hr : ∀ x ∈ xs, ev x p = ev x q) : ∀ i, co p i = co q i := fun i => by
  have h := no_roots (add_bb hp hq) (hdp.add hdq) hx hn hl (fun x hxs => by rw [ev_add hp hq (hx x hxs), hr x hxs, Nat.xor_self]) i
  rw [co_add] at h
  exact xor_eq_zero h

/-! The polynomial of some roots. -/
theorem mul_one_bb (a : Nat) (ha : a < 256) : BB [a, 1] := BB.cons ha (BB.cons (by omega) BB.nil)
theorem co_mul_lin {p : List Nat} (hp : BB p) (a k : Nat) : co (mul p [a, 1]) (k + 1) = gm (co p (k + 1)) a ^^^ co p k := by
  induction p generalizing k with
  | nil => simp [mul, co_nil, gm_zero_left]
  | cons b p ih =>
    unfold mul
    rw [co_add, co_sm, co_succ, co_succ, co_succ]
    cases k with
    | zero =>
      have : co (mul p [a, 1]) 0 = gm (co p 0) a := by
        cases p with
        | nil => simp [mul, co_nil, gm_zero_left]
        | cons c p => unfold mul; rw [co_add, co_sm, co_zero, co_zero, co_zero, Nat.xor_zero]
      rw [this, co_zero, co_zero, gm_one hp.head, Nat.xor_comm]
    | succ k => rw [ih hp.tail, co_succ, co_succ, co_nil, gm_zero_right, Nat.zero_xor]
def rt (xs : List Nat) : List Nat := xs.foldl (fun p a => tr (mul p [a, 1])) [1]
theorem rt_snoc (xs : List Nat) (a : Nat) : rt (xs ++ [a]) = tr (mul (rt xs) [a, 1]) := by simp [rt]
theorem rt_bb (xs : List Nat) : BB (rt xs) := by
  have : ∀ ys : List Nat, BB (rt ys.reverse) := by
    intro ys
    induction ys with
    | nil => exact BB.cons (by omega) BB.nil
    | cons a ys ih => rw [List.reverse_cons, rt_snoc]; exact tr_bb (mul_bb _ _)
  have h := this xs.reverse
  rwa [List.reverse_reverse] at h
/-- Its degree is the number of roots, and its first byte 1. -/
theorem rt_top (xs : List Nat) : (rt xs).length = xs.length + 1 ∧ co (rt xs) xs.length = 1 := by
  have : ∀ ys : List Nat, (rt ys.reverse).length = ys.length + 1 ∧ co (rt ys.reverse) ys.length = 1 := by
    intro ys
    induction ys with
    | nil => exact ⟨rfl, rfl⟩
    | cons a ys ih =>
      rw [List.reverse_cons, rt_snoc]
      have h1 : co (mul (rt ys.reverse) [a, 1]) (ys.length + 1) = 1 := by
        rw [co_mul_lin (rt_bb _), ih.2, co_far (by rw [ih.1]; omega), gm_zero_left]; rfl
      have h2 : ∀ i, ys.length + 2 ≤ i → co (mul (rt ys.reverse) [a, 1]) i = 0 := fun i hi => by
        obtain ⟨k, rfl⟩ : ∃ k, i = k + 1 := ⟨i - 1, by omega⟩
        rw [co_mul_lin (rt_bb _), co_far (by rw [ih.1]; omega), co_far (by rw [ih.1]; omega), gm_zero_left]; rfl
      have h3 : ys.length + 2 ≤ (mul (rt ys.reverse) [a, 1]).length := by
        rcases Nat.lt_or_ge (mul (rt ys.reverse) [a, 1]).length (ys.length + 2) with h | h
        · rw [co_far (by omega)] at h1; omega
        · exact h
      have h4 := tr_take _ (ys.length + 2) h3 h2 (.inr (by show co _ (ys.length + 1) ≠ 0; rw [h1]; omega))
      constructor
      · rw [h4, List.length_take]; simp; omega
      · rw [List.length_cons, co_tr, h1]
  have h := this xs.reverse
  rwa [List.reverse_reverse, List.length_reverse] at h
theorem ev_rt_snoc (xs : List Nat) {a x : Nat} (ha : a < 256) (hx : x < 256) : ev x (rt (xs ++ [a])) = gm (ev x (rt xs)) (a ^^^ x) := by
  rw [rt_snoc, ev_tr, ev_mul (rt_bb xs) (mul_one_bb a ha) hx]
  congr 1
  show a ^^^ gm x (1 ^^^ gm x 0) = a ^^^ x
  rw [gm_zero_right, Nat.xor_zero, gm_one hx]
/-- It is 0 there, and nowhere else. -/
theorem ev_rt_zero {xs : List Nat} (h : BB xs) {x : Nat} (hx : x < 256) : ev x (rt xs) = 0 ↔ x ∈ xs := by
  have : ∀ ys : List Nat, BB ys → (ev x (rt ys.reverse) = 0 ↔ x ∈ ys) := by
    intro ys hy
    induction ys with
    | nil => simp [rt, ev, gm_zero_right]
    | cons a ys ih =>
      rw [List.reverse_cons, ev_rt_snoc _ hy.head hx, gm_eq_zero, ih hy.tail, List.mem_cons]
      constructor
      · rintro (h | h)
        · exact .inr h
        · exact .inl (xor_eq_zero h).symm
      · rintro (h | h)
        · subst h; exact .inr (Nat.xor_self _)
        · exact .inl h
  have h2 := this xs.reverse (fun y hy => h y (List.mem_reverse.1 hy))
  rw [List.reverse_reverse, List.mem_reverse] at h2
  exact h2

/-! The polynomial through points. -/
def lagc (xs ys : List Nat) (i : Nat) : Nat := gm (co ys i) (inv (ev (co xs i) (rt (xs.eraseIdx i))))
def lag (xs ys : List Nat) (i : Nat) : List Nat := tr (mul (rt (xs.eraseIdx i)) [lagc xs ys i])
def thrTo (xs ys : List Nat) : Nat → List Nat
  | 0 => []
  | k + 1 => tr (add (thrTo xs ys k) (lag xs ys k))
theorem lag_bb (xs ys : List Nat) (i : Nat) : BB (lag xs ys i) := tr_bb (mul_bb _ _)
theorem thrTo_bb (xs ys : List Nat) (k : Nat) : BB (thrTo xs ys k) := by
  cases k with
  | zero => exact BB.nil
  | succ k => exact tr_bb (add_bb (by induction k with
      | zero => exact BB.nil
      | succ k ih => exact tr_bb (add_bb ih (lag_bb _ _ _))) (lag_bb _ _ _))
theorem lagc_lt (xs ys : List Nat) (i : Nat) : lagc xs ys i < 256 := gm_lt _ _
theorem co_mul_one (p : List Nat) (c i : Nat) : co (mul p [c]) i = gm (co p i) c := by
  induction p generalizing i with
  | nil => simp [mul, co_nil, gm_zero_left]
  | cons b p ih =>
    unfold mul; rw [co_add]
    cases i with
    | zero => simp [co_sm, co_zero]
    | succ i => rw [co_succ, ih, co_succ, co_sm, co_succ, co_nil, gm_zero_right, Nat.zero_xor]
theorem lag_dg {xs : List Nat} (ys : List Nat) {i : Nat} (hi : i < xs.length) : Dg (lag xs ys i) xs.length := fun j hj => by
  unfold lag
  rw [co_tr, co_mul_one, co_far, gm_zero_left]
  have := (rt_top (xs.eraseIdx i)).1
  rw [List.length_eraseIdx_of_lt hi] at this
  omega
theorem thrTo_dg {xs : List Nat} (ys : List Nat) {k : Nat} (hk : k ≤ xs.length) : Dg (thrTo xs ys k) xs.length := by
  induction k with
  | zero => exact fun i _ => co_nil i
  | succ k ih => exact fun j hj => by unfold thrTo; rw [co_tr]; exact (Dg.add (ih (by omega)) (lag_dg ys (by omega))) j hj
theorem BB.erase {xs : List Nat} (h : BB xs) (i : Nat) : BB (xs.eraseIdx i) := fun x hx => h x (List.mem_of_mem_eraseIdx hx)
theorem mem_erase {xs : List Nat} {i j : Nat} (hj : j < xs.length) (hne : j ≠ i) : xs[j] ∈ xs.eraseIdx i := by
  rw [List.mem_eraseIdx_iff_getElem]
  exact ⟨j, hj, hne, rfl⟩
theorem not_mem_erase {xs : List Nat} (hn : xs.Nodup) {i : Nat} (hi : i < xs.length) : xs[i] ∉ xs.eraseIdx i := by
  rw [List.mem_eraseIdx_iff_getElem]
  rintro ⟨j, hj, hne, e⟩
  exact hne ((List.getElem_inj hn).1 e)
theorem ev_lag {xs ys : List Nat} (hx : BB xs) (hy : BB ys) (hn : xs.Nodup) {i j : Nat} (hi : i < xs.length) (hj : j < xs.length) : ev xs[j] (lag xs ys i) = if j = i then co ys i else 0 := by
  have hxj := hx.get hj
  unfold lag
  rw [ev_tr, ev_mul (rt_bb _) (BB.cons (lagc_lt _ _ _) BB.nil) hxj]
  have e1 : ev xs[j] [lagc xs ys i] = lagc xs ys i := by simp [ev, gm_zero_right]
  rw [e1]
  by_cases h : j = i
  · subst h
    rw [if_pos rfl]
    have hne : ev xs[j] (rt (xs.eraseIdx j)) ≠ 0 := fun h0 => not_mem_erase hn hj ((ev_rt_zero (hx.erase j) hxj).1 h0)
    unfold lagc
    rw [co_get hj, gm_comm (co ys j), ← gm_assoc (ev_lt (rt_bb _) _) (inv_lt _) (hy.co j), gm_inv (ev_lt (rt_bb _) _) hne, gm_one_left (hy.co j)]
  · rw [if_neg h, (ev_rt_zero (hx.erase i) hxj).2 (mem_erase hj h), gm_zero_left]
theorem ev_thrTo {xs ys : List Nat} (hx : BB xs) (hy : BB ys) (hn : xs.Nodup) {k j : Nat} (hk : k ≤ xs.length) (hj : j < xs.length) : ev xs[j] (thrTo xs ys k) = if j < k then co ys j else 0 := by
  induction k with
  | zero => simp [thrTo, ev]
  | succ k ih =>
    unfold thrTo
    rw [ev_tr, ev_add (thrTo_bb _ _ _) (lag_bb _ _ _) (hx.get hj), ih (by omega), ev_lag hx hy hn (by omega) hj]
    by_cases h1 : j < k
    · rw [if_pos h1, if_neg (by omega), if_pos (by omega), Nat.xor_zero]
    · rw [if_neg h1]
      by_cases h2 : j = k
      · subst h2; rw [if_pos rfl, if_pos (by omega), Nat.zero_xor]
      · rw [if_neg h2, if_neg (by omega)]; rfl
/-- The polynomial through all points. -/
def thr (xs ys : List Nat) : List Nat := tr (thrTo xs ys xs.length)
theorem thr_bb (xs ys : List Nat) : BB (thr xs ys) := tr_bb (thrTo_bb _ _ _)
theorem thr_len (xs ys : List Nat) : (thr xs ys).length ≤ xs.length := Dg.tr (thrTo_dg ys (Nat.le_refl _))
theorem thr_at {xs ys : List Nat} (hx : BB xs) (hy : BB ys) (hn : xs.Nodup) {j : Nat} (hj : j < xs.length) : ev xs[j] (thr xs ys) = co ys j := by
  unfold thr; rw [ev_tr, ev_thrTo hx hy hn (Nat.le_refl _) hj, if_pos hj]
/-- Whatever has those values, and is short enough, is that. -/
theorem thr_only {xs ys p : List Nat} (hx : BB xs) (hy : BB ys) (hn : xs.Nodup) (hp : BB p) (hl : Dg p xs.length) (h : ∀ j (hj : j < xs.length), ev xs[j] p = co ys j) : tr p = thr xs ys := by
  have e := unique hp (thr_bb xs ys) hl (Dg.len (thr_len xs ys)) hx hn (Nat.le_refl _) (fun x hxs => by
    obtain ⟨j, hj, rfl⟩ := List.getElem_of_mem hxs
    rw [h j hj, thr_at hx hy hn hj])
  rw [tr_ext e]; unfold thr; rw [tr_tr]
end Pol
