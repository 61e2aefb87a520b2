/- Words of values in plain numbers: a polynomial's values at some points, how often two agree, and that few points tell them apart. -/
import Derived.Test.YtmcfkgjkfceomaaRpd
import Derived.Test.YtmcfkgjkfceomaaPoq
namespace Pol
open Go.Proofs.Ytmcfkgjkfceomaa

/-- The values of p at all of xs. -/
def enc (p xs : List Nat) : List Nat := xs.map (fun x => ev x p)
theorem enc_len (p xs : List Nat) : (enc p xs).length = xs.length := by simp [enc]
theorem enc_bb {p : List Nat} (hp : BB p) (xs : List Nat) : BB (enc p xs) := fun y hy => by
  obtain ⟨x, _, rfl⟩ := List.mem_map.1 hy
  exact ev_lt hp x
theorem enc_at {p xs : List Nat} {j : Nat} (hj : j < xs.length) : co (enc p xs) j = ev xs[j] p := by
  rw [co_get (by rw [enc_len]; exact hj)]; simp [enc]
theorem enc_get {p xs : List Nat} {j x : Nat} (h : xs[j]? = some x) : (enc p xs)[j]? = some (ev x p) := by simp [enc, h]
/-- The row when k values are written. -/
def encTo (p xs : List Nat) (k : Nat) : List Nat := (List.range xs.length).map (fun j => if j < k then ev (co xs j) p else 0)
theorem encTo_len (p xs : List Nat) (k : Nat) : (encTo p xs k).length = xs.length := by simp [encTo]
theorem co_encTo {p xs : List Nat} {k j : Nat} (h : j < xs.length) : co (encTo p xs k) j = if j < k then ev (co xs j) p else 0 := by
  rw [co_get (by rw [encTo_len]; exact h)]; simp [encTo]
theorem encTo_zero (p xs : List Nat) : encTo p xs 0 = List.replicate xs.length 0 := by
  refine ext_co (by rw [encTo_len, List.length_replicate]) fun i hi => ?_
  rw [encTo_len] at hi
  rw [co_encTo hi, if_neg (by omega)]
  unfold co
  simp [hi]
theorem encTo_all (p xs : List Nat) : encTo p xs xs.length = enc p xs := by
  refine ext_co (by rw [encTo_len, enc_len]) fun i hi => ?_
  rw [encTo_len] at hi
  rw [co_encTo hi, if_pos hi, enc_at hi, co_get hi]
theorem encTo_step {p xs : List Nat} {k x : Nat} (hx : xs[k]? = some x) : (encTo p xs k).set k (ev x p) = encTo p xs (k + 1) := by
  obtain ⟨hk, rfl⟩ := List.getElem?_eq_some_iff.1 hx
  refine ext_co (by rw [List.length_set, encTo_len, encTo_len]) fun i hi => ?_
  rw [List.length_set, encTo_len] at hi
  by_cases e : i = k
  · subst e
    rw [co_encTo hi, if_pos (by omega), co_get (by rw [List.length_set, encTo_len]; exact hi), co_get hi]
    simp
  · rw [co_set_ne e, co_encTo hi, co_encTo hi]
    by_cases h : i < k
    · rw [if_pos h, if_pos (by omega)]
    · rw [if_neg h, if_neg (by omega)]
theorem agr_enc (p xs : List Nat) : ∀ k, k ≤ xs.length → agrTo p xs (enc p xs) k = k := by
  intro k
  induction k with
  | zero => intro _; rfl
  | succ k ih =>
    intro hk
    rw [agrTo, if_pos (by rw [enc_at (by omega), co_get (by omega)]), ih (by omega)]
/-- How many of the first k values of two rows are the same. -/
def sameTo (a b : List Nat) : Nat → Nat
  | 0 => 0
  | k + 1 => if co a k = co b k then sameTo a b k + 1 else sameTo a b k
theorem sameTo_le (a b : List Nat) (k : Nat) : sameTo a b k ≤ k := by
  induction k with
  | zero => exact Nat.le_refl _
  | succ k ih => unfold sameTo; split <;> omega
theorem same_filter (p q xs : List Nat) : ∀ k, k ≤ xs.length → sameTo (enc p xs) (enc q xs) k = ((xs.take k).filter (fun x => decide (ev x p = ev x q))).length := by
  intro k
  induction k with
  | zero => intro _; rfl
  | succ k ih =>
    intro hk
    have hx := List.getElem?_eq_getElem (show k < xs.length by omega)
    rw [sameTo, enc_at (by omega), enc_at (by omega), List.take_add_one, hx, List.filter_append, List.length_append, ih (by omega)]
    by_cases e : ev xs[k] p = ev xs[k] q
    · rw [if_pos e]; simp [e]
    · rw [if_neg e]; simp [e]
/-- Two unlike polynomials agree at few points. -/
theorem few_same {p q xs : List Nat} (hp : BB p) (hq : BB q) (hx : BB xs) (hn : xs.Nodup) (hne : tr p ≠ tr q) : sameTo (enc p xs) (enc q xs) xs.length < max p.length q.length := by
  rw [same_filter p q xs xs.length (Nat.le_refl _), List.take_length]
  rcases Nat.lt_or_ge (xs.filter (fun x => decide (ev x p = ev x q))).length (max p.length q.length) with h | h
  · exact h
  · exact absurd (tr_ext (unique hp hq (Dg.len (Nat.le_max_left _ _)) (Dg.len (Nat.le_max_right _ _)) (fun x hx' => hx x (List.mem_filter.1 hx').1) (hn.filter _) h
      (fun x hx' => by simpa using (List.mem_filter.1 hx').2))) hne
/-- Values at enough points make the polynomial again. -/
theorem thr_enc {p xs : List Nat} (hp : BB p) (hx : BB xs) (hn : xs.Nodup) (hl : (tr p).length ≤ xs.length) : thr xs (enc p xs) = tr p := by
  rw [← tr_tr p]
  exact (thr_only hx (enc_bb hp xs) hn (tr_bb hp) (Dg.len hl) (fun j hj => by rw [ev_tr, enc_at hj])).symm
theorem tr_thr (xs ys : List Nat) : tr (thr xs ys) = thr xs ys := by unfold thr; rw [tr_tr]
theorem enc_add {p q xs : List Nat} (hp : BB p) (hq : BB q) (hx : BB xs) {j x : Nat} (h : xs[j]? = some x) : ev x (tr (add p q)) = ev x p ^^^ ev x q := by
  rw [ev_tr, ev_add hp hq (hx x (List.mem_of_getElem? h))]
end Pol
