/- The polynomial through points, piece by piece, in plain numbers; small facts on worlds for it. -/
import Derived.Test.YtmcfkgjkfceomaaPpi
import Derived.Lib.QuietBelow
namespace Go.Proofs.Ytmcfkgjkfceomaa
open Go.RowKit Go.Shelf Gw Pol

/-- What a piece is multiplied by. -/
def pcF (xs ys : List Nat) (x : Pc xs) : Nat := Gf.dv (co ys x.i) (ev (co xs x.i) x.q)
/-- The sum, when some pieces have come. -/
def accF (xs ys : List Nat) (pre : List (Pc xs)) : List Nat := pre.foldl (fun L x => addAt L 0 (pcF xs ys x) x.q) (List.replicate xs.length 0)
theorem accF_snoc (xs ys : List Nat) (pre : List (Pc xs)) (x : Pc xs) : accF xs ys (pre ++ [x]) = addAt (accF xs ys pre) 0 (pcF xs ys x) x.q := by simp [accF]
theorem pcF_lt (xs ys : List Nat) (x : Pc xs) : pcF xs ys x < 256 := Gf.gm_lt _ _
theorem pc_len {xs : List Nat} (x : Pc xs) : x.q.length = xs.length := by
  obtain ⟨r, hr⟩ := x.hq; exact piece_len x.hi hr
theorem pc_bb {xs : List Nat} (x : Pc xs) : BB x.q := by
  obtain ⟨r, hr⟩ := x.hq; exact hr.bq
theorem accF_ok (xs ys : List Nat) (pre : List (Pc xs)) : (accF xs ys pre).length = xs.length ∧ BB (accF xs ys pre) := by
  have : ∀ r : List (Pc xs), (accF xs ys r.reverse).length = xs.length ∧ BB (accF xs ys r.reverse) := by
    intro r
    induction r with
    | nil => exact ⟨by simp [accF], fun x hx => by rw [List.eq_of_mem_replicate hx]; omega⟩
    | cons x r ih => rw [List.reverse_cons, accF_snoc]; exact ⟨by rw [addAt_len]; exact ih.1, addAt_bb ih.2 _ _ _⟩
  have h := this pre.reverse
  rwa [List.reverse_reverse] at h
theorem accF_ev {xs ys : List Nat} (hx : BB xs) (hy : BB ys) (hn : xs.Nodup) {j : Nat} (hj : j < xs.length) : ∀ (k : Nat) (pre : List (Pc xs)), pre.map Pc.i = List.range k → ev xs[j] (accF xs ys pre) = if j < k then co ys j else 0 := by
  intro k
  induction k with
  | zero =>
    intro pre hp
    have : pre = [] := by simpa using hp
    subst this
    rw [if_neg (by omega)]
    exact ev_zero _ (fun i => by simp [accF, co, List.getElem?_replicate]; split <;> rfl)
  | succ k ih =>
    intro pre hp
    rw [List.range_succ, List.map_eq_append_iff] at hp
    obtain ⟨l1, l2, rfl, h1, h2⟩ := hp
    obtain ⟨x, l3, rfl, h3, h4⟩ := List.map_eq_cons_iff.1 h2
    have : l3 = [] := by simpa using h4
    subst this
    have hok := accF_ok xs ys l1
    rw [accF_snoc, ev_addAt hok.2 (pc_bb x) (pcF_lt _ _ _) (hx.get hj) (by rw [pc_len, hok.1]; exact Nat.le_refl _), ih l1 h1]
    obtain ⟨r, hr⟩ := x.hq
    have hi := x.hi
    by_cases e : j = k
    · have exi : x.i = j := by omega
      have hself := piece_self hx hn hi hr
      have : Gf.gm (pcF xs ys x) (ev xs[j] x.q) = co ys j := by
        have e2 : ev (co xs x.i) x.q = ev xs[j] x.q := by rw [co_get hi]; congr 1; simp [exi]
        unfold pcF
        rw [e2, exi]
        refine Gf.gm_dv (hy.co j) (ev_lt (pc_bb x) _) ?_
        rw [← e2, co_get hi]; exact hself
      rw [this, if_neg (by omega), if_pos (by omega), Nat.zero_xor]
    · rw [piece_other hx hn hi hj (by omega) hr, Gf.gm_zero_right, Nat.xor_zero]
      by_cases h5 : j < k
      · rw [if_pos h5, if_pos (by omega)]
      · rw [if_neg h5, if_neg (by omega)]
theorem accF_all {xs ys : List Nat} (hx : BB xs) (hy : BB ys) (hn : xs.Nodup) {pre : List (Pc xs)} (hp : pre.map Pc.i = List.range xs.length) : tr (accF xs ys pre) = thr xs ys := by
  have hok := accF_ok xs ys pre
  exact thr_only hx hy hn hok.2 (Dg.len (Nat.le_of_eq hok.1)) (fun j hj => by rw [accF_ev hx hy hn hj xs.length pre hp, if_pos hj])

theorem keeps_below {W X : World} (h : Below W.heap.size W X) : KeepsOthers W X := ⟨h.size, fun k _ hk _ => (h.block k (Array.getElem?_eq_some_iff.1 hk).1).trans hk⟩
theorem keeps_row {X W' : World} {base g c : Nat} {e : TypeId} {l : List Nat} (ho : Gw.Own X base e (some ⟨g, 0, none⟩) c l) (h : X.grownBy W' (some g)) : KeepsOthers X W' := ⟨h.size, fun k _ hk hc => by
  refine (h.block k (Array.getElem?_eq_some_iff.1 hk).1 (fun e2 => ?_)).trans hk
  injection e2 with e2
  subst e2
  rcases ho.1.2 with ⟨hv, _⟩ | ⟨k2, cap, cur, hv, _, h2, _⟩
  · injection hv with hv; cases hv
  · injection hv with hv
    injection hv with hv
    injection hv with hv
    subst hv
    rw [hk] at h2
    injection h2 with h2
    subst h2
    cases hc⟩
end Go.Proofs.Ytmcfkgjkfceomaa
