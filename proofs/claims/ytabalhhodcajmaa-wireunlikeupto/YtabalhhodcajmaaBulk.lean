/- What the bound on all that comes in says of each argument. -/
import Derived.Test.YtabalhhodcajmaaRows
import Derived.Test.YtabalhhodcajmaaLawb
namespace Go.Proofs.Ytabalhhodcajmaa.bulks
open Gw

theorem pos {H : Type} (d : DataW H) : 0 < Rows.uptoBulk d := by
  unfold Rows.uptoBulk
  split <;> omega
theorem cons {H : Type} (d : DataW H) (l : List (DataW H)) : Rows.uptoBulkAll (d :: l) = Rows.uptoBulk d + Rows.uptoBulkAll l := by rw [Rows.uptoBulkAll]
theorem sum {H : Type} : ∀ l : List (DataW H), Rows.uptoBulkAll l = (l.map Rows.uptoBulk).sum
  | [] => by rw [Rows.uptoBulkAll]; rfl
  | d :: l => by rw [cons, sum l, List.map_cons, List.sum_cons]
theorem app {H : Type} (l r : List (DataW H)) : Rows.uptoBulkAll (l ++ r) = Rows.uptoBulkAll l + Rows.uptoBulkAll r := by
  simp only [sum, List.map_append, List.sum_append]
theorem len_le {H : Type} : ∀ l : List (DataW H), l.length ≤ Rows.uptoBulkAll l
  | [] => Nat.zero_le _
  | d :: l => by
    have h1 := pos d
    have h2 := len_le l
    rw [cons, List.length_cons]
    omega
/-- Each argument is of that bulk at the most. -/
theorem part {H : Type} {l : List (DataW H)} (hk : Rows.uptoSmall H l = true) {j : Nat} {d : DataW H} (h : l[j]? = some d) : Rows.uptoBulk d ≤ 1048576 := by
  have hb : Rows.uptoBulkAll l ≤ 1048576 := of_decide_eq_true hk
  obtain ⟨hj, he⟩ := List.getElem?_eq_some_iff.1 h
  have h2 := app (l.take j) (l.drop j)
  rw [List.take_append_drop, List.drop_eq_getElem_cons hj, cons, he] at h2
  omega
/-- A slice's places. -/
theorem bytes_small {H : Type} {d : DataW H} {c : Nat} (h : Rows.uptoBulk d ≤ 1048576) (hc : (d = .nil ∧ c = 0) ∨ ∃ el sp, d = .slice el sp ∧ el.length + sp.length = c) : c ≤ 1048576 := by
  rcases hc with ⟨_, rfl⟩ | ⟨el, sp, rfl, rfl⟩
  · omega
  · have h1 := len_le el
    have h2 := len_le sp
    simp only [Rows.uptoBulk] at h
    omega
/-- What rows of bytes hold, row by row. -/
theorem row_le {H : Type} {d : DataW H} {l : List Nat} (h : (d = .nil ∧ l = []) ∨ ∃ el sp, d = .slice el sp ∧ el.length = l.length) : l.length ≤ Rows.uptoBulk d := by
  rcases h with ⟨_, e⟩ | ⟨el, sp, e, e2⟩
  · rw [e]; exact Nat.zero_le _
  · have := len_le el
    rw [e, Rows.uptoBulk]; omega
theorem rows_le {H : Type} {l : Nat → List Nat} {D : Nat → DataW H} (R : Nat) (h : ∀ i, i < R → (l i).length + 1 ≤ Rows.uptoBulk (D i)) : tot l R + R ≤ Rows.uptoBulkAll ((List.range R).map D) := by
  induction R with
  | zero => simp [tot]
  | succ R ih =>
    have h1 := ih (fun i hi => h i (by omega))
    have h2 := h R (by omega)
    rw [List.range_succ, List.map_append, app]
    simp only [List.map_cons, List.map_nil, Rows.uptoBulkAll, tot]
    omega
theorem rows_small {H : Type} {l : Nat → List Nat} {R : Nat} {d : DataW H} (hk : Rows.uptoBulk d ≤ 1048576)
    (h : (d = .nil ∧ R = 0) ∨ ∃ (D : Nat → DataW H) (sp : List (DataW H)), d = .slice ((List.range R).map D) sp ∧ ∀ i, i < R → (D i = .nil ∧ l i = []) ∨ ∃ el sp, D i = .slice el sp ∧ el.length = (l i).length) :
    tot l R + R ≤ 1048576 := by
  rcases h with ⟨_, rfl⟩ | ⟨D, sp, rfl, h⟩
  · simp [tot]
  · have := rows_le (l := l) (D := D) R (fun i hi => by
      rcases h i hi with ⟨e, e2⟩ | ⟨el, sp, e, e2⟩
      · rw [e, e2, Rows.uptoBulk]; exact Nat.le_refl _
      · have := len_le el
        rw [e, Rows.uptoBulk]; omega)
    simp only [Rows.uptoBulk] at hk
    omega
theorem ops_small {H : Type} {l : Nat → List Nat} {R : Nat} {d : DataW H} (hk : Rows.uptoBulk d ≤ 1048576)
    (h : (d = .nil ∧ R = 0) ∨ ∃ (D0 D1 : Nat → DataW H) (sp : List (DataW H)), d = .slice ((List.range R).map fun i => .agg [D0 i, D1 i]) sp ∧ ∀ i, i < R → (D1 i = .nil ∧ l i = []) ∨ ∃ el sp, D1 i = .slice el sp ∧ el.length = (l i).length) :
    tot l R + R ≤ 1048576 := by
  rcases h with ⟨_, rfl⟩ | ⟨D0, D1, sp, rfl, h⟩
  · simp [tot]
  · have := rows_le (l := l) (D := fun i => DataW.agg [D0 i, D1 i]) R (fun i hi => by
      have := row_le (h i hi)
      simp only [Rows.uptoBulk, Rows.uptoBulkAll]
      omega)
    simp only [Rows.uptoBulk] at hk
    omega
end Go.Proofs.Ytabalhhodcajmaa.bulks
