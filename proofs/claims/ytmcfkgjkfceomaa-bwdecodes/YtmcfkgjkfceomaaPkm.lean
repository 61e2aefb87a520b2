/- All ways to pick some of so many, in numbers; the polynomial that is agreed on is found among them. -/
import Derived.Test.YtmcfkgjkfceomaaBwm
namespace Pol
open Go.Proofs.Ytmcfkgjkfceomaa

/-- The ways whose last one is one of s, .., s + j - 1; f are the ways ahead of a last one. -/
def pkL (f : Nat → List (List Nat)) (s : Nat) : Nat → List (List Nat)
  | 0 => []
  | j + 1 => pkL f s j ++ (f (s + j)).map (· ++ [s + j])
/-- All ways to pick s of n, each rising. -/
def pk : Nat → Nat → List (List Nat)
  | 0, _ => [[]]
  | s + 1, n => pkL (pk s) s (n - s)
theorem pkL_mem (f : Nat → List (List Nat)) (s : Nat) (r : List Nat) : ∀ j, r ∈ pkL f s j ↔ ∃ i, i < j ∧ ∃ q ∈ f (s + i), r = q ++ [s + i] := by
  intro j
  induction j with
  | zero => simp [pkL]
  | succ j ih =>
    rw [pkL, List.mem_append, ih, List.mem_map]
    constructor
    · rintro (⟨i, hi, q, hq, rfl⟩ | ⟨q, hq, rfl⟩)
      · exact ⟨i, by omega, q, hq, rfl⟩
      · exact ⟨j, by omega, q, hq, rfl⟩
    · rintro ⟨i, hi, q, hq, rfl⟩
      by_cases e : i = j
      · subst e; exact .inr ⟨q, hq, rfl⟩
      · exact .inl ⟨i, by omega, q, hq, rfl⟩
theorem pk_sound (s : Nat) : ∀ n r, r ∈ pk s n → r.length = s ∧ (∀ x ∈ r, x < n) ∧ r.Pairwise (· < ·) := by
  induction s with
  | zero =>
    intro n r hr
    have : r = [] := by simpa [pk] using hr
    subst this
    exact ⟨rfl, fun x hx => (List.not_mem_nil hx).elim, List.Pairwise.nil⟩
  | succ s ih =>
    intro n r hr
    obtain ⟨i, hi, q, hq, rfl⟩ := (pkL_mem _ _ _ _).1 hr
    obtain ⟨h1, h2, h3⟩ := ih _ _ hq
    refine ⟨by simp [h1], fun x hx => ?_, ?_⟩
    · rcases List.mem_append.1 hx with h | h
      · have := h2 x h; omega
      · simp at h; omega
    · rw [List.pairwise_append]
      exact ⟨h3, by simp, fun a ha b hb => by simp at hb; subst hb; exact h2 a ha⟩
theorem rising_big : ∀ (r : List Nat), r.Pairwise (· < ·) → ∀ n, (∀ x ∈ r, x < n) → r.length ≤ n := by
  intro r hp n hn
  have h := hp.imp (fun {a b} (h : a < b) => Nat.ne_of_lt h)
  have hs : r.Nodup := h
  have hsub : r ⊆ List.range n := fun x hx => List.mem_range.2 (hn x hx)
  have := (List.nodup_range (n := n))
  have hl := hs.length_le_of_subset hsub
  simpa using hl
theorem pk_all (s : Nat) : ∀ n r, r.length = s → (∀ x ∈ r, x < n) → r.Pairwise (· < ·) → r ∈ pk s n := by
  induction s with
  | zero =>
    intro n r hl _ _
    have : r = [] := List.length_eq_zero_iff.1 hl
    subst this
    simp [pk]
  | succ s ih =>
    intro n r hl hn hp
    have hne : r ≠ [] := fun e => by rw [e] at hl; simp at hl
    obtain ⟨q, x, rfl⟩ : ∃ q x, r = q ++ [x] := ⟨r.dropLast, r.getLast hne, (List.dropLast_concat_getLast hne).symm⟩
    rw [List.pairwise_append] at hp
    have hql : q.length = s := by simpa using hl
    have hqx : ∀ y ∈ q, y < x := fun y hy => hp.2.2 y hy x (by simp)
    have hsx := rising_big q hp.1 x hqx
    have hxn := hn x (by simp)
    refine (pkL_mem _ _ _ _).2 ⟨x - s, by omega, q, ?_, ?_⟩
    · rw [show s + (x - s) = x by omega]; exact ih x q hql hqx hp.1
    · rw [show s + (x - s) = x by omega]
theorem pkL_len (f : Nat → List (List Nat)) (s : Nat) (hf : ∀ n, (f n).length ≤ 2 ^ n) : ∀ j, (pkL f s j).length + 2 ^ s ≤ 2 ^ (s + j) := by
  intro j
  induction j with
  | zero => simp [pkL]
  | succ j ih =>
    rw [pkL, List.length_append, List.length_map]
    have := hf (s + j)
    have h2 : 2 ^ (s + (j + 1)) = 2 ^ (s + j) + 2 ^ (s + j) := by rw [← Nat.add_assoc, Nat.pow_succ]; omega
    omega
theorem pk_len (s : Nat) : ∀ n, (pk s n).length ≤ 2 ^ n := by
  induction s with
  | zero => intro n; simp [pk]; exact Nat.one_le_two_pow
  | succ s ih =>
    intro n
    have h := pkL_len (pk s) s ih (n - s)
    by_cases hn : s ≤ n
    · rw [show s + (n - s) = n by omega] at h
      have e : (pk (s + 1) n).length = (pkL (pk s) s (n - s)).length := rfl
      rw [e]
      exact Nat.le_trans (Nat.le_add_right _ _) h
    · have e : n - s = 0 := by omega
      have : (pk (s + 1) n).length = (pkL (pk s) s (n - s)).length := rfl
      rw [this, e]; simp [pkL]

/-- The bytes of l at the places of r. -/
def pts (l r : List Nat) : List Nat := r.map (co l)
theorem pts_len (l r : List Nat) : (pts l r).length = r.length := by simp [pts]
theorem pts_bb {l : List Nat} (h : BB l) (r : List Nat) : BB (pts l r) := fun x hx => by
  obtain ⟨i, _, rfl⟩ := List.mem_map.1 hx
  exact h.co i
theorem pts_nodup {l r : List Nat} (hl : l.Nodup) (hr : r.Pairwise (· < ·)) (hn : ∀ x ∈ r, x < l.length) : (pts l r).Nodup := by
  unfold pts
  rw [List.Nodup, List.pairwise_map]
  refine hr.imp_of_mem fun {a b} ha hb hab e => ?_
  have h1 := hn a ha
  have h2 := hn b hb
  rw [co_get h1, co_get h2] at e
  have := (List.getElem_inj hl).1 e
  omega
/-- The places below k at which p has the value. -/
def agP (p xs ys : List Nat) : Nat → List Nat
  | 0 => []
  | k + 1 => if ev (co xs k) p = co ys k then agP p xs ys k ++ [k] else agP p xs ys k
theorem agP_len (p xs ys : List Nat) (k : Nat) : (agP p xs ys k).length = agrTo p xs ys k := by
  induction k with
  | zero => simp [agP, agrTo]
  | succ k ih => unfold agP agrTo; split <;> (try rw [List.length_append, List.length_singleton]) <;> omega
theorem agP_lt (p xs ys : List Nat) (k : Nat) : ∀ i ∈ agP p xs ys k, i < k ∧ ev (co xs i) p = co ys i := by
  induction k with
  | zero => simp [agP]
  | succ k ih =>
    intro i hi
    unfold agP at hi
    split at hi
    · rcases List.mem_append.1 hi with h | h
      · exact ⟨by have := (ih i h).1; omega, (ih i h).2⟩
      · simp at h; subst h; exact ⟨by omega, ‹_›⟩
    · exact ⟨by have := (ih i hi).1; omega, (ih i hi).2⟩
theorem agP_rising (p xs ys : List Nat) (k : Nat) : (agP p xs ys k).Pairwise (· < ·) := by
  induction k with
  | zero => simp [agP]
  | succ k ih =>
    unfold agP
    split
    · rw [List.pairwise_append]
      exact ⟨ih, by simp, fun a ha b hb => by
        have hbk : b = k := by simpa using hb
        rw [hbk]; exact (agP_lt p xs ys k a ha).1⟩
    · exact ih
/-- What is made of the values at some places. -/
def pthr (xs ys r : List Nat) : List Nat := thr (pts xs r) (pts ys r)
theorem agrTo_tr (p xs ys : List Nat) (k : Nat) : agrTo (tr p) xs ys k = agrTo p xs ys k := by
  induction k with
  | zero => rfl
  | succ k ih => unfold agrTo; rw [ev_tr, ih]
/-- A polynomial with so many values is made of some d + 1 of them. -/
theorem pick_finds {p xs ys : List Nat} {s : Nat} (hp : BB p) (hx : BB xs) (hy : BB ys) (hn : xs.Nodup) (hl : p.length ≤ s) (ha : s ≤ agrTo p xs ys xs.length) : ∃ r ∈ pk s xs.length, pthr xs ys r = tr p := by
  obtain ⟨r, hr⟩ : ∃ r, r = (agP p xs ys xs.length).take s := ⟨_, rfl⟩
  have hsub : r.Sublist (agP p xs ys xs.length) := by rw [hr]; exact List.take_sublist _ _
  have hrl : r.length = s := by rw [hr, List.length_take, agP_len]; omega
  have hmem : ∀ i ∈ r, i < xs.length ∧ ev (co xs i) p = co ys i := fun i hi => agP_lt p xs ys _ i (hsub.subset hi)
  have hris : r.Pairwise (· < ·) := (agP_rising p xs ys _).sublist hsub
  refine ⟨r, pk_all s _ r hrl (fun x hx => (hmem x hx).1) hris, ?_⟩
  unfold pthr
  refine (thr_only (pts_bb hx r) (pts_bb hy r) (pts_nodup hn hris (fun x hx => (hmem x hx).1)) hp (Dg.len (by rw [pts_len, hrl]; exact hl)) ?_).symm
  intro j hj
  rw [pts_len] at hj
  have h1 := (hmem r[j] (List.getElem_mem hj)).2
  simp only [pts, List.getElem_map]
  rw [h1]
  simp [co, hj]
theorem pthr_ok {xs ys r : List Nat} {s : Nat} (hr : r ∈ pk s xs.length) : BB (pthr xs ys r) ∧ tr (pthr xs ys r) = pthr xs ys r ∧ (pthr xs ys r).length ≤ s := by
  refine ⟨thr_bb _ _, tr_thr _ _, ?_⟩
  have h := thr_len (pts xs r) (pts ys r)
  rw [pts_len, (pk_sound s _ r hr).1] at h
  exact h
end Pol
