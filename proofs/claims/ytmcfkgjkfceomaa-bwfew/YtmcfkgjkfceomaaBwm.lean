/- Words of which some values are wrong, in numbers: which places are wrong; a polynomial that is agreed on is alone; Euclid's rests; the first rest that is low enough, divided by its factor, is the polynomial that is agreed on. -/
import Derived.Test.YtmcfkgjkfceomaaRsm
namespace Pol
open Go.Proofs.Ytmcfkgjkfceomaa

/-- The places below k at which p has another value. -/
def wrTo (p xs ys : List Nat) : Nat → List Nat
  | 0 => []
  | k + 1 => if ev (co xs k) p = co ys k then wrTo p xs ys k else wrTo p xs ys k ++ [k]
theorem wrTo_agr (p xs ys : List Nat) (k : Nat) : (wrTo p xs ys k).length + agrTo p xs ys k = k := by
  induction k with
  | zero => simp [wrTo, agrTo]
  | succ k ih => unfold wrTo agrTo; split <;> (try rw [List.length_append, List.length_singleton]) <;> omega
theorem wrTo_lt (p xs ys : List Nat) (k : Nat) : ∀ i ∈ wrTo p xs ys k, i < k := by
  induction k with
  | zero => simp [wrTo]
  | succ k ih =>
    intro i hi
    unfold wrTo at hi
    split at hi
    · have := ih i hi; omega
    · rcases List.mem_append.1 hi with h | h
      · have := ih i h; omega
      · simp at h; omega
theorem wrTo_mem (p xs ys : List Nat) (k j : Nat) (hj : j < k) : ev (co xs j) p = co ys j ∨ j ∈ wrTo p xs ys k := by
  induction k with
  | zero => omega
  | succ k ih =>
    by_cases e : j = k
    · subst e
      unfold wrTo
      split
      · exact .inl ‹_›
      · exact .inr (by simp)
    · rcases ih (by omega) with h | h
      · exact .inl h
      · refine .inr ?_
        unfold wrTo
        split
        · exact h
        · exact List.mem_append.2 (.inl h)

/-- A polynomial is agreed on, by d and e. -/
structure Agd (xs ys : List Nat) (d e : Int) (p : List Nat) : Prop where
  bb : BB p
  tr_ : tr p = p
  len : xs.length = ys.length
  few : xs.length ≤ 255
  un : xs.Nodup
  d0 : 0 ≤ d
  d1 : d ≤ 255
  e0 : 0 ≤ e
  e1 : e ≤ 255
  deg : (p.length : Int) ≤ d + 1
  most : ((wrTo p xs ys xs.length).length : Int) ≤ e
  own : ((wrTo p xs ys xs.length).length : Int) + (d + 1 + e) ≤ xs.length

theorem agr_same {p q xs ys : List Nat} : ∀ k, k ≤ xs.length → agrTo p xs ys k + agrTo q xs ys k ≤ k + sameTo (enc p xs) (enc q xs) k := by
  intro k
  induction k with
  | zero => intro _; simp [agrTo]
  | succ k ih =>
    intro hk
    have := ih (by omega)
    unfold agrTo sameTo
    have e1 := enc_at (p := p) (xs := xs) (j := k) (by omega)
    have e2 := enc_at (p := q) (xs := xs) (j := k) (by omega)
    rw [co_get (p := xs) (i := k) (by omega), e1, e2]
    by_cases h1 : ev xs[k] p = co ys k
    · by_cases h2 : ev xs[k] q = co ys k
      · rw [if_pos h1, if_pos h2, if_pos (by rw [h1, h2])]; omega
      · rw [if_pos h1, if_neg h2]; split <;> omega
    · by_cases h2 : ev xs[k] q = co ys k
      · rw [if_neg h1, if_pos h2]; split <;> omega
      · rw [if_neg h1, if_neg h2]; split <;> omega
/-- Polynomials of a degree of d at most that have at least m and m' of n values, where m + m' is more than n + d, are the same. -/
theorem agr_alone {xs ys p q : List Nat} {D : Nat} (hp : BB p) (hq : BB q) (tp : tr p = p) (tq : tr q = q) (hx : BB xs) (hn : xs.Nodup) (hlp : p.length ≤ D) (hlq : q.length ≤ D)
    (h : xs.length + D ≤ agrTo p xs ys xs.length + agrTo q xs ys xs.length) : p = q := by
  refine Decidable.byContradiction fun hne => ?_
  have h1 := few_same hp hq hx hn (by rw [tp, tq]; exact hne)
  have h2 := agr_same (p := p) (q := q) (xs := xs) (ys := ys) xs.length (Nat.le_refl _)
  omega
theorem Agd.alone {xs ys : List Nat} {d e : Int} {p q : List Nat} (hx : BB xs) (h : Agd xs ys d e p) (k : Agd xs ys d e q) : p = q := by
  have h1 := wrTo_agr p xs ys xs.length
  have h2 := wrTo_agr q xs ys xs.length
  have := h.own; have := k.most; have := h.d0; have := h.deg; have := k.deg
  exact agr_alone (D := (d + 1).toNat) (ys := ys) h.bb k.bb h.tr_ k.tr_ hx h.un (by omega) (by omega) (by omega)

theorem ev_all {p q : List Nat} (hp : BB p) (hq : BB q) (hdp : Dg p 256) (hdq : Dg q 256) (h : ∀ x, x < 256 → ev x p = ev x q) : ∀ i, co p i = co q i :=
  unique (xs := List.range 256) hp hq hdp hdq (fun x hx => List.mem_range.1 hx) List.nodup_range (by simp) (fun x hx => h x (List.mem_range.1 hx))
theorem mul_dg {p q : List Nat} {n m : Nat} (hp : Dg p n) (hq : Dg q m) : Dg (mul p q) (n + m - 1) := fun k hk => by
  rw [← mul_left_tr]
  have := hp.tr
  exact mul_far hq (by omega)
theorem mul_none {p q : List Nat} (hp : tr p ≠ []) (hq : tr q ≠ []) : ∃ k, (tr q).length ≤ k + 1 ∧ k + 2 = (tr p).length + (tr q).length ∧ co (mul p q) k ≠ 0 := by
  have l1 := List.length_pos_iff.2 hp
  have l2 := List.length_pos_iff.2 hq
  refine ⟨(tr p).length + (tr q).length - 2, by omega, by omega, ?_⟩
  have h := mul_top (p := tr p) (q := tr q) (m := (tr q).length) hp (Dg.len (Nat.le_refl _)) l2
  rw [mul_tr_tr] at h
  rw [h]
  refine Gf.gm_ne ?_ ?_
  · rw [co_tr]; exact tr_last hp
  · rw [co_tr]; exact tr_last hq

/-- What Euclid's rests are like: r0 the one ahead, r1 this one, v1 its factor. -/
structure Eu (xs ys r0 v0 r1 v1 : List Nat) : Prop where
  b0 : BB r0
  b1 : BB r1
  c0 : BB v0
  c1 : BB v1
  t1 : tr r1 = r1
  u0 : tr v0 = v0
  u1 : tr v1 = v1
  p0 : ∀ j (hj : j < xs.length), ev xs[j] r0 = Gf.gm (ev xs[j] v0) (co ys j)
  p1 : ∀ j (hj : j < xs.length), ev xs[j] r1 = Gf.gm (ev xs[j] v1) (co ys j)
  fall : r1.length < r0.length
  rise : v0.length < v1.length
  sum : v1.length + r0.length ≤ xs.length + 2
theorem Eu.start {xs ys : List Nat} (hx : BB xs) (hy : BB ys) (hn : xs.Nodup) : Eu xs ys (rt xs) [] (thr xs ys) [1] := by
  have hb1 : BB [1] := BB.cons (by omega) BB.nil
  refine ⟨rt_bb _, thr_bb _ _, BB.nil, hb1, tr_thr _ _, rfl, tr_self (.inr (by simp [co])), fun j hj => ?_, fun j hj => ?_, ?_, by simp, ?_⟩
  · rw [(ev_rt_zero hx (hx.get hj)).2 (List.getElem_mem hj)]
    exact (Gf.gm_zero_left _).symm
  · rw [thr_at hx hy hn hj]
    have : ev xs[j] [1] = 1 := by simp [ev, Gf.gm_zero_right]
    rw [this, Gf.gm_one_left (hy.co j)]
  · rw [(rt_top xs).1]; have := thr_len xs ys; omega
  · rw [(rt_top xs).1]; simp; omega
theorem Eu.step {xs ys r0 v0 r1 v1 q r2 : List Nat} (hx : BB xs) (hy : BB ys) (h : Eu xs ys r0 v0 r1 v1) (t0 : tr r0 = r0) (hne : r1 ≠ []) (hd : DivOf r0 r1 q r2) : Eu xs ys r1 v1 r2 (tr (add v0 (tr (mul q v1)))) := by
  have l0 : tr r0 ≠ [] := by rw [t0]; intro e; have := h.fall; rw [e] at this; simp at this
  have hr1 : tr r1 ≠ [] := by rw [h.t1]; exact hne
  have hv1 : v1 ≠ [] := fun e => by have := h.rise; rw [e] at this; simp at this
  have hlr := hd.lr
  rw [h.t1] at hlr
  have hfall := h.fall
  have hrise := h.rise
  have hpos := List.length_pos_iff.2 hne
  -- q's length
  have hq0 : tr q ≠ [] := by
    intro e
    have : ∀ k, co r0 k = co r2 k := fun k => by
      rw [hd.eq k, ← mul_left_tr, e]
      show co [] k ^^^ _ = _
      rw [co_nil, Nat.zero_xor]
    have h2 := tr_last l0
    rw [t0, this, co_far (by omega)] at h2
    exact h2 rfl
  obtain ⟨k, hk1, hk2, hk3⟩ := mul_none hq0 hr1
  rw [h.t1] at hk1 hk2
  rw [hd.tq] at hk2
  have hql : q.length + r1.length = r0.length + 1 := by
    have h1 : co r0 k ≠ 0 := by rw [hd.eq k, co_far (p := r2) (by omega), Nat.xor_zero]; exact hk3
    have h2 : k < r0.length := Decidable.byContradiction fun hge => h1 (co_far (by omega))
    have h3 : ¬ (k + 1 < r0.length) := fun hlt => by
      have h4 := tr_last l0
      rw [t0, hd.eq, co_far (p := r2) (by omega), Nat.xor_zero] at h4
      refine h4 (mul_far (m := r1.length) (Dg.len (Nat.le_refl _)) (by omega))
    omega
  have hq1 : q ≠ [] := fun e => by rw [e] at hq0; exact hq0 rfl
  have hmul : tr (mul q v1) = pl q v1 := by
    have := pl_tr (p := q) (q := v1) hq0 (by rw [h.u1]; exact hv1)
    rw [hd.tq, h.u1] at this; exact this
  have hml : (tr (mul q v1)).length = q.length + v1.length - 1 := by rw [hmul, pl_len]
  have hmt : co (mul q v1) (q.length + v1.length - 2) ≠ 0 := by
    obtain ⟨k', h1, h2, h3⟩ := mul_none (p := q) (q := v1) hq0 (by rw [h.u1]; exact hv1)
    rw [hd.tq, h.u1] at h2
    rw [show q.length + v1.length - 2 = k' by omega]; exact h3
  have hv1p := List.length_pos_iff.2 hv1
  have hqp := List.length_pos_iff.2 hq1
  have hbm : BB (tr (mul q v1)) := tr_bb (mul_bb _ _)
  have hself : tr (add v0 (tr (mul q v1))) = add v0 (tr (mul q v1)) := by
    refine tr_self (.inr ?_)
    rw [add_len, hml, co_add, co_far (p := v0) (by omega), Nat.zero_xor, co_tr]
    rw [show max v0.length (q.length + v1.length - 1) - 1 = q.length + v1.length - 2 by omega]; exact hmt
  have hvl : (tr (add v0 (tr (mul q v1)))).length = q.length + v1.length - 1 := by rw [hself, add_len, hml]; omega
  refine ⟨h.b1, hd.br, h.c1, tr_bb (add_bb h.c0 hbm), hd.tr_, h.u1, tr_tr _, h.p1, fun j hj => ?_, by omega, by omega, by have := h.sum; omega⟩
  have hxj := hx.get hj
  have e1 : ev xs[j] r0 = Gf.gm (ev xs[j] q) (ev xs[j] r1) ^^^ ev xs[j] r2 := by
    rw [← ev_mul hd.bq h.b1 hxj, ← ev_add (mul_bb _ _) hd.br hxj]
    exact ev_ext _ (fun i => by rw [co_add]; exact hd.eq i)
  have e2 : ev xs[j] r2 = ev xs[j] r0 ^^^ Gf.gm (ev xs[j] q) (ev xs[j] r1) := by
    rw [e1, Nat.xor_comm (Gf.gm _ _), Nat.xor_assoc, Nat.xor_self, Nat.xor_zero]
  rw [e2, ev_tr, ev_add h.c0 hbm hxj, ev_tr, ev_mul hd.bq h.c1 hxj, h.p0 j hj, h.p1 j hj, Gf.gm_xor_left (ev_lt h.c0 _) (Gf.gm_lt _ _) (hy.co j), Gf.gm_assoc (ev_lt hd.bq _) (ev_lt h.c1 _) (hy.co j)]

/-- The first rest that is low enough, divided by its factor, is the polynomial that is agreed on. -/
theorem Eu.finds {xs ys r0 v0 r1 v1 q r p : List Nat} {d e : Int} (hx : BB xs) (h : Eu xs ys r0 v0 r1 v1) (hp : Agd xs ys d e p) (high : (xs.length : Int) + d + 3 ≤ 2 * r0.length) (low : 2 * (r1.length : Int) < xs.length + d + 3)
    (hd : DivOf r1 v1 q r) : q = p ∧ r = [] := by
  have hv1 : v1 ≠ [] := fun e => by have := h.rise; rw [e] at this; simp at this
  have hown := hp.own; have hmost := hp.most; have hdeg := hp.deg; have hd0 := hp.d0; have hfew := hp.few
  have hfall := h.fall; have hsum := h.sum; have hqr := hd.lq
  obtain ⟨ws, hws⟩ : ∃ ws, ws = (wrTo p xs ys xs.length).map (co xs) := ⟨_, rfl⟩
  have hwl : ws.length = (wrTo p xs ys xs.length).length := by rw [hws]; simp
  have hwb : BB ws := fun x hx' => by
    rw [hws] at hx'
    obtain ⟨i, _, rfl⟩ := List.mem_map.1 hx'
    exact hx.co i
  obtain ⟨z, hz⟩ : ∃ z, z = add r1 (mul v1 p) := ⟨_, rfl⟩
  have hzb : BB z := by rw [hz]; exact add_bb h.b1 (mul_bb _ _)
  have hzd : ∃ M, Dg z M ∧ ws.length + M ≤ xs.length := by
    refine ⟨max r1.length (v1.length + p.length - 1), ?_, by omega⟩
    rw [hz]
    exact Dg.add (Dg.len (by omega)) ((mul_dg (Dg.len (Nat.le_refl _)) (Dg.len (Nat.le_refl _))).mono (by omega))
  obtain ⟨M, hM, hMn⟩ := hzd
  have hZ : ∀ i, co (mul (rt ws) z) i = 0 := by
    refine no_roots (n := xs.length) (xs := xs) (mul_bb _ _) ?_ hx hp.un (Nat.le_refl _) ?_
    · refine (mul_dg (Dg.len (n := ws.length + 1) (by rw [(rt_top ws).1]; exact Nat.le_refl _)) hM).mono (by omega)
    · intro x hxm
      obtain ⟨j, hj, rfl⟩ := List.getElem_of_mem hxm
      have hxj := hx.get hj
      rw [ev_mul (rt_bb _) hzb hxj]
      rcases wrTo_mem p xs ys xs.length j hj with he | hw
      · rw [co_get hj] at he
        rw [hz, ev_add h.b1 (mul_bb _ _) hxj, ev_mul h.c1 hp.bb hxj, he, h.p1 j hj, Nat.xor_self, Gf.gm_zero_right]
      · rw [(ev_rt_zero hwb hxj).2 (by rw [hws]; exact List.mem_map.2 ⟨j, hw, co_get hj⟩), Gf.gm_zero_left]
  have hzz : tr z = [] := Decidable.byContradiction fun hne => by
    obtain ⟨k, _, _, h3⟩ := mul_none (p := rt ws) (q := z) (by
      intro e
      have := (tr_nil_iff _).1 e ws.length
      rw [(rt_top ws).2] at this
      omega) hne
    exact h3 (hZ k)
  have hrv : ∀ i, co r1 i = co (mul v1 p) i := fun i => by
    have := (tr_nil_iff _).1 hzz i
    rw [hz, co_add] at this
    exact xor_eq_zero this
  have hrem : ∀ i, co (mul (add p q) v1) i = co r i := by
    have hrl := hd.lr
    rw [h.u1] at hrl
    refine ev_all (mul_bb _ _) hd.br ((mul_dg (Dg.len (n := max p.length q.length) (by rw [add_len]; exact Nat.le_refl _)) (Dg.len (Nat.le_refl v1.length))).mono (by omega)) (Dg.len (by omega)) fun x hx' => ?_
    rw [ev_mul (add_bb hp.bb hd.bq) h.c1 hx', ev_add hp.bb hd.bq hx', Gf.gm_xor_left (ev_lt hp.bb _) (ev_lt hd.bq _) (ev_lt h.c1 _)]
    have e1 : ev x r1 = Gf.gm (ev x p) (ev x v1) := by rw [ev_ext x hrv, ev_mul h.c1 hp.bb hx', Gf.gm_comm]
    have e2 : ev x r1 = Gf.gm (ev x q) (ev x v1) ^^^ ev x r := by
      rw [← ev_mul hd.bq h.c1 hx', ← ev_add (mul_bb _ _) hd.br hx']
      exact ev_ext _ (fun i => by rw [co_add]; exact hd.eq i)
    rw [← e1, e2, Nat.xor_comm (Gf.gm _ _), Nat.xor_assoc, Nat.xor_self, Nat.xor_zero]
  have hpq : tr (add p q) = [] := Decidable.byContradiction fun hne => by
    obtain ⟨k, h1, _, h3⟩ := mul_none (p := add p q) (q := v1) hne (by rw [h.u1]; exact hv1)
    have hrl := hd.lr
    rw [h.u1] at h1 hrl
    rw [hrem k] at h3
    exact h3 (co_far (by omega))
  have e : ∀ i, co p i = co q i := fun i => by
    have := (tr_nil_iff _).1 hpq i
    rw [co_add] at this
    exact xor_eq_zero this
  refine ⟨?_, ?_⟩
  · rw [← hd.tq, ← hp.tr_]; exact (tr_ext e).symm
  · rw [← hd.tr_]
    refine (tr_nil_iff _).2 fun i => ?_
    rw [← hrem i, ← mul_left_tr, hpq]
    exact co_nil i
end Pol
