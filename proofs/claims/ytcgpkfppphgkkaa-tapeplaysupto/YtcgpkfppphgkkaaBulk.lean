/- What the bound on all that comes in says of pairs. -/
import Derived.Test.YtcgpkfppphgkkaaRows
import Derived.Test.YtcgpkfppphgkkaaLawo
namespace Go.Proofs.Ytcgpkfppphgkkaa.bulks
open Gw

theorem one_le {H : Type} (d : DataW H) : 1 ≤ Rows.uptoBulk d := by
  cases d with
  | lit l => cases l <;> simp [Rows.uptoBulk]
  | nil => simp [Rows.uptoBulk]
  | ptr d => simp [Rows.uptoBulk]
  | slice elems spare => simp [Rows.uptoBulk]
  | agg parts => simp [Rows.uptoBulk]
  | iface t d => simp [Rows.uptoBulk]
  | map entries => simp [Rows.uptoBulk]
  | held h => simp [Rows.uptoBulk]
theorem app {H : Type} (l r : List (DataW H)) : Rows.uptoBulkAll (l ++ r) = Rows.uptoBulkAll l + Rows.uptoBulkAll r := by
  induction l with
  | nil => simp [Rows.uptoBulkAll]
  | cons x l ih => simp only [List.cons_append, Rows.uptoBulkAll, ih]; omega
theorem len_le {H : Type} (l : List (DataW H)) : l.length ≤ Rows.uptoBulkAll l := by
  induction l with
  | nil => simp
  | cons x r ih => have := one_le x; simp only [Rows.uptoBulkAll, List.length_cons]; omega
theorem ops_le {H : Type} {l : Nat → List Nat} {D0 D1 : Nat → DataW H} (R : Nat) (h : ∀ i, i < R → (D1 i = .nil ∧ l i = []) ∨ ∃ el sp, D1 i = .slice el sp ∧ el.length = (l i).length) :
    tot l R + R ≤ Rows.uptoBulkAll ((List.range R).map fun i => DataW.agg [D0 i, D1 i]) := by
  induction R with
  | zero => simp [tot]
  | succ R ih =>
    have h1 := ih (fun i hi => h i (by omega))
    have h2 : (l R).length ≤ Rows.uptoBulk (D1 R) := by
      rcases h R (by omega) with ⟨_, e⟩ | ⟨el, sp, e, e2⟩
      · rw [e]; exact Nat.zero_le _
      · have := len_le el
        rw [e, Rows.uptoBulk]; omega
    rw [List.range_succ, List.map_append, app]
    simp only [List.map_cons, List.map_nil, Rows.uptoBulkAll, Rows.uptoBulk, tot]
    omega
theorem ops_small {H : Type} {l : Nat → List Nat} {R : Nat} {d : DataW H} (hk : Rows.uptoSmall H [d] = true)
    (h : (d = .nil ∧ R = 0) ∨ ∃ (D0 D1 : Nat → DataW H) (sp : List (DataW H)), d = .slice ((List.range R).map fun i => .agg [D0 i, D1 i]) sp ∧ ∀ i, i < R → (D1 i = .nil ∧ l i = []) ∨ ∃ el sp, D1 i = .slice el sp ∧ el.length = (l i).length) :
    tot l R + R ≤ 1048576 := by
  have hb : Rows.uptoBulkAll [d] ≤ 1048576 := of_decide_eq_true hk
  simp only [Rows.uptoBulkAll] at hb
  rcases h with ⟨_, rfl⟩ | ⟨D0, D1, sp, rfl, h⟩
  · simp [tot]
  · have := ops_le (D0 := D0) R h
    simp only [Rows.uptoBulk] at hb
    omega
end Go.Proofs.Ytcgpkfppphgkkaa.bulks
