/- Rows beyond those that there are, and columns beyond those that are looked at, do not matter. -/
import Derived.Test.YtkgbmkbbkaifmaaSol
namespace Sv
open Gf
def AgR (R w : Nat) (M N : Mx) : Prop := ∀ i j, i < R → j < w → M i j = N i j
theorem fnd_agR {M N : Mx} {c R : Nat} (h : ∀ i, i < R → M i c = N i c) : ∀ d k, k + d ≤ R → fnd M c k d = fnd N c k d
  | 0, _, _ => rfl
  | d + 1, k, hk => by simp only [fnd, h k (by omega), fnd_agR h d (k + 1) (by omega)]
theorem nxt_agR {R w k r c : Nat} {M N : Mx} (h : AgR R w M N) (hc : c < w) (hk : k < R) (hr : r < R) : AgR R w (nxt M k r c) (nxt N k r c) := by
  have h1 : AgR R w (swp M k r) (swp N k r) := fun i j hi hj => by unfold swp; split; exact h _ _ hr hj; split; exact h _ _ hk hj; exact h _ _ hi hj
  have h2 : AgR R w (scl (swp M k r) k c) (scl (swp N k r) k c) := fun i j hi hj => by unfold scl; rw [h1 k c hk hc, h1 k j hk hj, h1 i j hi hj]
  intro i j hi hj
  unfold nxt swe
  rw [h2 i j hi hj, h2 i c hi hc, h2 k j hk hj]
theorem red_agR (R : Nat) {w : Nat} {M N : Mx} (h : AgR R w M N) : ∀ c, c ≤ w → (red R M c).2 = (red R N c).2 ∧ AgR R w (red R M c).1 (red R N c).1
  | 0, _ => ⟨rfl, h⟩
  | c + 1, hc => by
    obtain ⟨h1, h2⟩ := red_agR R h c (by omega)
    have hf : fnd (red R M c).1 c (red R N c).2.length (R - (red R N c).2.length) = fnd (red R N c).1 c (red R N c).2.length (R - (red R N c).2.length) := by
      by_cases hl : (red R N c).2.length ≤ R
      · exact fnd_agR (fun i hi => h2 i c hi (by omega)) _ _ (by omega)
      · rw [show R - (red R N c).2.length = 0 by omega]; rfl
    simp only [red, step, h1, hf]
    split
    · rename_i hlt
      refine ⟨rfl, nxt_agR h2 (by omega) ?_ hlt⟩
      have := (fnd_spec (red R N c).1 c (R - (red R N c).2.length) (red R N c).2.length).1
      omega
    · exact ⟨h1, h2⟩
/-- Which columns ahead of j have a row of their own: k of them. -/
def Cnt (L : List Nat) (j k : Nat) : Prop := k ≤ L.length ∧ ∀ i l : Nat, L[i]? = some l → (i < k ↔ l < j)
theorem cnt_start (L : List Nat) : Cnt L 0 0 := ⟨Nat.zero_le _, fun i l _ => ⟨fun h => by omega, fun h => by omega⟩⟩
theorem Cnt.hit {L : List Nat} {R c j k : Nat} {M : Mx} (hE : Ech R c M L) (h : Cnt L j k) (hk : L[k]? = some j) : Cnt L (j + 1) (k + 1) := by
  refine ⟨at_lt hk, fun i l hi => ?_⟩
  have h1 := h.2 i l hi
  by_cases e : i = k
  · subst e; rw [hk] at hi; injection hi with hi; omega
  · have hne : l ≠ j := fun e2 => e (hE.nod (by rw [← e2]; exact hi) hk)
    omega
theorem Cnt.miss {L : List Nat} {R c j k : Nat} {M : Mx} (hE : Ech R c M L) (h : Cnt L j k) (hk : L[k]? ≠ some j) : Cnt L (j + 1) k ∧ j ∉ L := by
  have hn : ∀ i : Nat, L[i]? ≠ some j := fun i hi => by
    have h1 := h.2 i j hi
    by_cases e : i = k
    · subst e; exact hk hi
    · by_cases e2 : i < k
      · omega
      · have hil := at_lt hi
        obtain ⟨l, hl⟩ : ∃ l, L[k]? = some l := ⟨_, List.getElem?_eq_getElem (by omega)⟩
        have h2 := h.2 k l hl
        have h3 := hE.srt k i l j (by omega) hl hi
        omega
  refine ⟨⟨h.1, fun i l hi => ?_⟩, fun hm => ?_⟩
  · have h1 := h.2 i l hi
    have : l ≠ j := fun e => hn i (by rw [← e]; exact hi)
    omega
  · obtain ⟨i, hi⟩ := List.getElem?_of_mem hm
    exact hn i hi
end Sv
