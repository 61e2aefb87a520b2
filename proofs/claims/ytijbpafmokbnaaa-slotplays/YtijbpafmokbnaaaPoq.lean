/- More on polynomials as lists of numbers: what is added at a place, the product's first byte, quotients and what is left, the pieces out of which the polynomial through points is made; no program is named here. -/
import Derived.Test.YtijbpafmokbnaaaPol
namespace Pol
open Gf

theorem ext_co {l m : List Nat} (hl : l.length = m.length) (h : ∀ i, i < l.length → co l i = co m i) : l = m := by
  refine List.ext_getElem hl fun i h1 h2 => ?_
  have := h i h1
  rwa [co_get h1, co_get h2] at this
theorem tr_self {l : List Nat} (h : l = [] ∨ co l (l.length - 1) ≠ 0) : tr l = l := by
  have := tr_take l l.length (Nat.le_refl _) (fun i hi => co_far hi) (by
    rcases h with h | h
    · exact .inl (by rw [h]; rfl)
    · exact .inr h)
  rwa [List.take_length] at this
theorem tr_eq_self {l m : List Nat} (hm : m = [] ∨ co m (m.length - 1) ≠ 0) (h : ∀ i, co l i = co m i) : tr l = m := by rw [tr_ext h, tr_self hm]
theorem self_top {l : List Nat} (h : tr l = l) (h0 : l ≠ []) : co l (l.length - 1) ≠ 0 := by
  have := tr_last (p := l) (by rw [h]; exact h0)
  rwa [h] at this
theorem tr_is_take (l : List Nat) : tr l = l.take (tr l).length := by
  by_cases h : tr l = []
  · rw [h]; rfl
  · exact tr_take l (tr l).length (tr_len l) (fun i hi => co_trlen hi) (.inr (tr_last h))

/-- One step of the product, byte by byte. -/
theorem co_mul_zero (a : Nat) (p q : List Nat) : co (mul (a :: p) q) 0 = gm a (co q 0) := by
  unfold mul; rw [co_add, co_sm, co_zero, Nat.xor_zero]
theorem co_mul_succ (a : Nat) (p q : List Nat) (k : Nat) : co (mul (a :: p) q) (k + 1) = gm a (co q (k + 1)) ^^^ co (mul p q) k := by
  show co (add (sm a q) (0 :: mul p q)) (k + 1) = _
  rw [co_add, co_sm, co_succ]
theorem mul_right_ext (p : List Nat) {q r : List Nat} (h : ∀ i, co q i = co r i) (k : Nat) : co (mul p q) k = co (mul p r) k := by
  induction p generalizing k with
  | nil => rfl
  | cons a p ih =>
    cases k with
    | zero => rw [co_mul_zero, co_mul_zero, h]
    | succ k => rw [co_mul_succ, co_mul_succ, h, ih]
theorem mul_left_tr (p q : List Nat) (k : Nat) : co (mul (tr p) q) k = co (mul p q) k := by
  induction p generalizing k with
  | nil => rfl
  | cons a p ih =>
    have e : ∀ k, co (mul (a :: tr p) q) k = co (mul (a :: p) q) k := fun k => by
      cases k with
      | zero => rw [co_mul_zero, co_mul_zero]
      | succ k => rw [co_mul_succ, co_mul_succ, ih]
    by_cases h : tr p = [] ∧ a = 0
    · have : tr (a :: p) = [] := by rw [tr, if_pos h]
      rw [this, ← e k, h.1, h.2]
      cases k with
      | zero => rw [co_mul_zero, gm_zero_left]; rfl
      | succ k => rw [co_mul_succ, gm_zero_left]; simp [mul, co_nil]
    · rw [tr, if_neg h]; exact e k
theorem mul_tr_tr (p q : List Nat) (k : Nat) : co (mul (tr p) (tr q)) k = co (mul p q) k := by
  rw [mul_left_tr]; exact mul_right_ext p (co_tr q) k
theorem mul_far {p q : List Nat} {m k : Nat} (hq : Dg q m) (h : p.length + m ≤ k + 1) : co (mul p q) k = 0 := by
  induction p generalizing k with
  | nil => exact co_nil k
  | cons a p ih =>
    simp only [List.length_cons] at h
    cases k with
    | zero => rw [co_mul_zero, hq 0 (by omega), gm_zero_right]
    | succ k => rw [co_mul_succ, hq _ (by omega), gm_zero_right, ih (by omega)]; rfl
theorem mul_top {p q : List Nat} {m : Nat} (hp : p ≠ []) (hq : Dg q m) (hm : 1 ≤ m) : co (mul p q) (p.length + m - 2) = gm (co p (p.length - 1)) (co q (m - 1)) := by
  induction p with
  | nil => exact absurd rfl hp
  | cons a p ih =>
    by_cases h : p = []
    · subst h
      simp only [List.length_cons, List.length_nil]
      rw [show 0 + 1 + m - 2 = m - 1 from by omega]
      cases hk : m - 1 with
      | zero => rw [co_mul_zero]; simp [co_zero]
      | succ k => rw [co_mul_succ]; simp [mul, co_nil, co_zero]
    · have hl : 0 < p.length := List.length_pos_iff.2 h
      simp only [List.length_cons]
      rw [show p.length + 1 + m - 2 = (p.length + m - 2) + 1 from by omega, co_mul_succ, hq _ (by omega), gm_zero_right, Nat.zero_xor, ih h, show p.length + 1 - 1 = (p.length - 1) + 1 from by omega, co_succ]
/-- The product's row. -/
def pl (p q : List Nat) : List Nat := (List.range (p.length + q.length - 1)).map (co (mul p q))
theorem pl_len (p q : List Nat) : (pl p q).length = p.length + q.length - 1 := by simp [pl]
theorem co_pl {p q : List Nat} (hp : p ≠ []) (i : Nat) : co (pl p q) i = co (mul p q) i := by
  have hl : 0 < p.length := List.length_pos_iff.2 hp
  by_cases h : i < p.length + q.length - 1
  · rw [co_get (by rw [pl_len]; exact h)]; simp [pl]
  · rw [co_far (by rw [pl_len]; omega), mul_far (Dg.len (Nat.le_refl q.length)) (by omega)]
theorem pl_tr {p q : List Nat} (h1 : tr p ≠ []) (h2 : tr q ≠ []) : tr (mul p q) = pl (tr p) (tr q) := by
  have l1 : 0 < (tr p).length := List.length_pos_iff.2 h1
  have l2 : 0 < (tr q).length := List.length_pos_iff.2 h2
  refine tr_eq_self (.inr ?_) (fun i => by rw [co_pl h1, mul_tr_tr])
  rw [co_pl h1, pl_len, show (tr p).length + (tr q).length - 1 - 1 = (tr p).length + (tr q).length - 2 from by omega, mul_top h1 (Dg.len (Nat.le_refl _)) l2]
  intro h
  rcases gm_eq_zero.1 h with h | h
  · rw [co_tr] at h; exact tr_last h1 h
  · rw [co_tr] at h; exact tr_last h2 h
theorem pl_nil_left {p : List Nat} (q : List Nat) (h : tr p = []) : tr (mul p q) = [] := (tr_nil_iff _).2 (fun i => by rw [← mul_left_tr, h]; exact co_nil i)
theorem pl_nil_right (p : List Nat) {q : List Nat} (h : tr q = []) : tr (mul p q) = [] := (tr_nil_iff _).2 (fun i => by
  rw [mul_right_ext p (r := []) (fun i => by rw [(tr_nil_iff q).1 h, co_nil]), co_mul_nil])

/-! What is added at a place. -/
theorem co_set_ne {l : List Nat} {i j c : Nat} (h : j ≠ i) : co (l.set i c) j = co l j := by
  unfold co; rw [List.getD_eq_getElem?_getD, List.getElem?_set_ne (by omega), List.getD_eq_getElem?_getD]
/-- c times l, added to L from place o on. -/
def addAt (L : List Nat) (o c : Nat) (l : List Nat) : List Nat := (List.range L.length).map (fun j => co L j ^^^ (if o ≤ j then gm c (co l (j - o)) else 0))
theorem addAt_len (L : List Nat) (o c : Nat) (l : List Nat) : (addAt L o c l).length = L.length := by simp [addAt]
theorem co_addAt {L : List Nat} {o : Nat} (c : Nat) {l : List Nat} (h : o + l.length ≤ L.length) (j : Nat) : co (addAt L o c l) j = co L j ^^^ (if o ≤ j then gm c (co l (j - o)) else 0) := by
  by_cases hj : j < L.length
  · rw [co_get (by rw [addAt_len]; exact hj)]; simp [addAt]
  · rw [co_far (by rw [addAt_len]; omega), co_far (p := L) (by omega)]
    by_cases h2 : o ≤ j
    · rw [if_pos h2, co_far (p := l) (by omega), gm_zero_right]; rfl
    · rw [if_neg h2]; rfl
theorem addAt_nil (L : List Nat) (o c : Nat) : addAt L o c [] = L := by
  refine ext_co (addAt_len _ _ _ _) fun i hi => ?_
  rw [addAt_len] at hi
  rw [co_get (by rw [addAt_len]; exact hi)]
  simp [addAt, co_nil, gm_zero_right]
theorem addAt_snoc {L l : List Nat} {o k c x : Nat} (h : o + l.length ≤ L.length) (hx : l[k]? = some x) :
    (addAt L o c (l.take k)).set (o + k) (co (addAt L o c (l.take k)) (o + k) ^^^ gm c x) = addAt L o c (l.take (k + 1)) := by
  have hk : k < l.length := (List.getElem?_eq_some_iff.1 hx).1
  have hxe : x = co l k := by simp [co, hx]
  have t1 : o + (l.take k).length ≤ L.length := by rw [List.length_take]; omega
  have t2 : o + (l.take (k + 1)).length ≤ L.length := by rw [List.length_take]; omega
  refine ext_co (by rw [List.length_set, addAt_len, addAt_len]) fun i hi => ?_
  rw [List.length_set, addAt_len] at hi
  by_cases e : i = o + k
  · subst e
    have : co ((addAt L o c (l.take k)).set (o + k) (co (addAt L o c (l.take k)) (o + k) ^^^ gm c x)) (o + k) = co (addAt L o c (l.take k)) (o + k) ^^^ gm c x := by
      rw [co_get (by rw [List.length_set, addAt_len]; exact hi)]; simp
    rw [this, co_addAt c t1, co_addAt c t2, if_pos (by omega), if_pos (by omega), show o + k - o = k from by omega, co_take_far (Nat.le_refl k), co_take (by omega), gm_zero_right, Nat.xor_zero, hxe]
  · have : co ((addAt L o c (l.take k)).set (o + k) (co (addAt L o c (l.take k)) (o + k) ^^^ gm c x)) i = co (addAt L o c (l.take k)) i := by
      exact co_set_ne e
    rw [this, co_addAt c t1, co_addAt c t2]
    congr 1
    by_cases h2 : o ≤ i
    · rw [if_pos h2, if_pos h2]
      by_cases h3 : i - o < k
      · rw [co_take h3, co_take (by omega)]
      · rw [co_take_far (by omega), co_take_far (by omega)]
    · rw [if_neg h2, if_neg h2]
theorem addAt_bb {L : List Nat} (h : BB L) (o c : Nat) (l : List Nat) : BB (addAt L o c l) := fun x hx => by
  unfold addAt at hx
  obtain ⟨j, _, rfl⟩ := List.mem_map.1 hx
  refine xor_lt (h.co j) ?_
  split
  · exact gm_lt _ _
  · omega

/-! Quotients. -/
theorem mul_set {q : List Nat} {i c : Nat} (d : List Nat) (hi : i < q.length) (h0 : co q i = 0) (k : Nat) : co (mul (q.set i c) d) k = co (mul q d) k ^^^ (if i ≤ k then gm c (co d (k - i)) else 0) := by
  induction q generalizing i k with
  | nil => simp at hi
  | cons a q ih =>
    cases i with
    | zero =>
      have ha : a = 0 := by simpa [co_zero] using h0
      subst ha
      rw [List.set_cons_zero, if_pos (Nat.zero_le _), Nat.sub_zero]
      cases k with
      | zero => rw [co_mul_zero, co_mul_zero, gm_zero_left, Nat.zero_xor]
      | succ k => rw [co_mul_succ, co_mul_succ, gm_zero_left, Nat.zero_xor, Nat.xor_comm]
    | succ i =>
      rw [List.set_cons_succ]
      rw [co_succ] at h0
      cases k with
      | zero => rw [co_mul_zero, co_mul_zero, if_neg (by omega), Nat.xor_zero]
      | succ k =>
        rw [co_mul_succ, co_mul_succ, ih (by simpa using hi) h0, Nat.xor_assoc]
        simp
/-- q and r are what p is by d, and what is left. -/
structure DivOf (p d q r : List Nat) : Prop where
  bq : BB q
  br : BB r
  tq : tr q = q
  tr_ : tr r = r
  lr : r.length < (tr d).length
  lq : q.length ≤ p.length
  eq : ∀ k, co p k = co (mul q d) k ^^^ co r k
/-- What holds when the powers from i on are through: q is 0 below, r is 0 from i + (d's degree) on. -/
structure DivAt (p d q r : List Nat) (i : Nat) : Prop where
  bq : BB q
  br : BB r
  hq : ∀ j, j < i → co q j = 0
  hr : Dg r (i + d.length - 1)
  eq : ∀ k, co p k = co (mul q d) k ^^^ co r k
theorem DivAt.step {p d q r : List Nat} {i c : Nat} (h : DivAt p d q r (i + 1)) (hd : BB d) (hl : 0 < d.length) (h0 : co d (d.length - 1) ≠ 0) (hi : i < q.length) (hlr : i + d.length ≤ r.length)
    (hc : c = dv (co r (i + d.length - 1)) (co d (d.length - 1))) : DivAt p d (q.set i c) (addAt r i c d) i := by
  have hcl : c < 256 := by rw [hc]; exact gm_lt _ _
  have hmulc : gm c (co d (d.length - 1)) = co r (i + d.length - 1) := by rw [hc]; exact gm_dv (h.br.co _) (hd.co _) h0
  refine ⟨?_, addAt_bb h.br _ _ _, ?_, ?_, ?_⟩
  · intro x hx
    rcases List.mem_or_eq_of_mem_set hx with h1 | h1
    · exact h.bq x h1
    · omega
  · intro j hj
    rw [co_set_ne (by omega)]; exact h.hq j (by omega)
  · intro j hj
    rw [co_addAt c hlr, if_pos (by omega)]
    by_cases e : j = i + d.length - 1
    · subst e
      rw [show i + d.length - 1 - i = d.length - 1 from by omega, hmulc, Nat.xor_self]
    · rw [h.hr j (by omega), co_far (p := d) (by omega), gm_zero_right]; rfl
  · intro k
    rw [mul_set d hi (h.hq i (by omega)), co_addAt c hlr, h.eq k, xor4, Nat.xor_comm (co (mul q d) k) (co r k)]
    generalize (if i ≤ k then gm c (co d (k - i)) else 0) = X
    rw [Nat.xor_comm (co r k) (co (mul q d) k)]
    rw [show (co (mul q d) k ^^^ co r k) ^^^ (X ^^^ X) = co (mul q d) k ^^^ co r k by rw [Nat.xor_self, Nat.xor_zero]]
theorem DivAt.start {p d : List Nat} (hp : BB p) (n : Nat) (h : p.length ≤ n + d.length - 1) : DivAt p d (List.replicate n 0) p n := by
  refine ⟨fun x hx => by rw [List.eq_of_mem_replicate hx]; omega, hp, fun j hj => by unfold co; simp [hj], fun i hi => co_far (by omega), fun k => ?_⟩
  have : ∀ (m k : Nat), co (mul (List.replicate m 0) d) k = 0 := by
    intro m
    induction m with
    | zero => intro k; exact co_nil k
    | succ m ih =>
      intro k
      rw [List.replicate_succ]
      cases k with
      | zero => rw [co_mul_zero, gm_zero_left]
      | succ k => rw [co_mul_succ, gm_zero_left, ih]; rfl
  rw [this, Nat.zero_xor]
/-- At the end. -/
theorem DivAt.done {p d q r : List Nat} (h : DivAt (tr p) (tr d) q r 0) (hd : tr d ≠ []) (hl : q.length = (tr p).length - ((tr d).length - 1)) : DivOf p d q (tr r) := by
  have ld : 0 < (tr d).length := List.length_pos_iff.2 hd
  have hr : (tr r).length ≤ (tr d).length - 1 := Dg.tr (h.hr.mono (by omega))
  have hpl := tr_len p
  refine ⟨h.bq, tr_bb h.br, tr_self ?_, tr_tr r, by omega, by omega, fun k => ?_⟩
  · by_cases hq0 : q = []
    · exact .inl hq0
    · have lq : 0 < q.length := List.length_pos_iff.2 hq0
      have hp0 : tr p ≠ [] := fun e => by
        have e2 : (tr p).length = 0 := by rw [e]; rfl
        omega
      refine .inr fun e => ?_
      have h1 := h.eq ((tr p).length - 1)
      rw [show (tr p).length - 1 = q.length + (tr d).length - 2 from by omega, mul_top hq0 (Dg.len (Nat.le_refl _)) ld, e, gm_zero_left, h.hr _ (by omega), ← show (tr p).length - 1 = q.length + (tr d).length - 2 from by omega, co_tr] at h1
      exact tr_last hp0 h1
  · have h1 := h.eq k
    rw [co_tr, mul_right_ext q (co_tr d)] at h1
    rw [h1, co_tr]

/-! The polynomial of some roots, the other way round. -/
theorem lin_mul {p : List Nat} (hp : BB p) (a : Nat) : tr (mul [a, 1] p) = tr (mul p [a, 1]) := tr_ext fun k => by
  cases k with
  | zero =>
    rw [co_mul_zero]
    cases p with
    | nil => simp [mul, co_nil, gm_zero_right]
    | cons b p => rw [co_mul_zero, co_zero, co_zero, gm_comm]
  | succ k =>
    rw [co_mul_succ, co_mul_lin hp, gm_comm]
    congr 1
    cases k with
    | zero => rw [co_mul_zero, gm_one_left (hp.co 0)]
    | succ k => rw [co_mul_succ, gm_one_left (hp.co _)]; simp [mul, co_nil]

/-! The pieces. -/
theorem ev_lin {a x : Nat} (hx : x < 256) : ev x [a, 1] = a ^^^ x := by
  show a ^^^ gm x (1 ^^^ gm x 0) = a ^^^ x
  rw [gm_zero_right, Nat.xor_zero, gm_one hx]
theorem tr_lin (a : Nat) : tr [a, 1] = [a, 1] := tr_self (.inr (by simp [co]))
/-- What divides all roots' polynomial by one of them. -/
theorem piece_ev {xs q r : List Nat} {i : Nat} (hx : BB xs) (hi : i < xs.length) (h : DivOf (rt xs) [xs[i], 1] q r) {y : Nat} (hy : y < 256) : gm (ev y q) (xs[i] ^^^ y) = ev y (rt xs) := by
  have hxi := hx.get hi
  have hlr : r.length ≤ 1 := by have := h.lr; rw [tr_lin] at this; simp at this; omega
  have key : ∀ z, z < 256 → ev z (rt xs) = gm (ev z q) (xs[i] ^^^ z) ^^^ co r 0 := fun z hz => by
    have e1 : ev z (rt xs) = ev z (add (mul q [xs[i], 1]) r) := ev_ext z (fun k => by rw [h.eq k, co_add])
    rw [e1, ev_add (mul_bb _ _) h.br hz, ev_mul h.bq (mul_one_bb _ hxi) hz, ev_lin hz]
    congr 1
    match r, hlr with
    | [], _ => rfl
    | [b], _ => simp [ev, gm_zero_right, co_zero]
  have h0 := key xs[i] hxi
  rw [Nat.xor_self, gm_zero_right, Nat.zero_xor, (ev_rt_zero hx hxi).2 (List.getElem_mem hi)] at h0
  rw [key y hy, ← h0, Nat.xor_zero]
theorem piece_other {xs q r : List Nat} {i j : Nat} (hx : BB xs) (hn : xs.Nodup) (hi : i < xs.length) (hj : j < xs.length) (hne : j ≠ i) (h : DivOf (rt xs) [xs[i], 1] q r) : ev xs[j] q = 0 := by
  have h1 := piece_ev hx hi h (hx.get hj)
  rw [(ev_rt_zero hx (hx.get hj)).2 (List.getElem_mem hj)] at h1
  rcases gm_eq_zero.1 h1 with h2 | h2
  · exact h2
  · exact absurd ((List.getElem_inj hn).1 (xor_eq_zero h2).symm) hne
theorem piece_len {xs q r : List Nat} {i : Nat} (hi : i < xs.length) (h : DivOf (rt xs) [xs[i], 1] q r) : q.length = xs.length := by
  have hlr : r.length ≤ 1 := by have := h.lr; rw [tr_lin] at this; simp at this; omega
  have htop := (rt_top xs).2
  have hl := (rt_top xs).1
  have hq0 : q ≠ [] := fun e => by
    have := h.eq xs.length
    rw [e, htop, co_far (p := r) (by omega)] at this
    simp [mul, co_nil] at this
  have lq : 0 < q.length := List.length_pos_iff.2 hq0
  have hd : Dg [xs[i], 1] 2 := Dg.len (by simp)
  have hm := mul_top hq0 hd (by omega)
  have ht := self_top h.tq hq0
  rcases Nat.lt_trichotomy q.length xs.length with h1 | h1 | h1
  · have := h.eq xs.length
    rw [htop, co_far (p := r) (by omega), mul_far hd (by omega)] at this
    simp at this
  · exact h1
  · have := h.eq q.length
    rw [co_far (by omega), co_far (p := r) (by omega), Nat.xor_zero, show q.length = q.length + 2 - 2 from by omega, hm] at this
    have h3 : co [xs[i], 1] (2 - 1) = 1 := rfl
    rw [h3, gm_one (h.bq.co _)] at this
    exact absurd this.symm ht
theorem piece_self {xs q r : List Nat} {i : Nat} (hx : BB xs) (hn : xs.Nodup) (hi : i < xs.length) (h : DivOf (rt xs) [xs[i], 1] q r) : ev xs[i] q ≠ 0 := fun e => by
  have hl := piece_len hi h
  have hz := no_roots h.bq (Dg.len (Nat.le_of_eq hl)) hx hn (Nat.le_refl _) (fun x hxs => by
    obtain ⟨j, hj, rfl⟩ := List.getElem_of_mem hxs
    by_cases e2 : j = i
    · subst e2; exact e
    · exact piece_other hx hn hi hj e2 h)
  have hq0 : q ≠ [] := fun e => by rw [e] at hl; simp at hl; omega
  exact self_top h.tq hq0 (hz _)
theorem ev_addAt {L l : List Nat} {c x : Nat} (hL : BB L) (hl : BB l) (hc : c < 256) (hx : x < 256) (h : l.length ≤ L.length) : ev x (addAt L 0 c l) = ev x L ^^^ gm c (ev x l) := by
  rw [ev_ext x (q := add L (sm c l)) (fun k => by rw [co_addAt c (by omega), co_add, co_sm, if_pos (Nat.zero_le _), Nat.sub_zero]), ev_add hL (sm_bb _ _) hx, ev_sm hc hx hl]
end Pol
