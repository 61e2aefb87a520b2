import Derived.Lib.BufferOwn
import Derived.Laws.CopyOwn
import Derived.Lib.HexFns2
import Derived.Deep.Matrix
import Derived.Test.YtgikgnhpplmljaaProg
import Derived.Test.YtgikgnhpplmljaaJ1
section
/- Rows of bytes made plain, column by column: which columns have a row of their own, and what that says of the equations. -/
namespace Sv
open Gf

/-- Byte j of row i. -/
abbrev Mx := Nat → Nat → Nat

/-- The first row from k on, of d, whose byte in column c is not 0. -/
def fnd (M : Mx) (c : Nat) : Nat → Nat → Nat
  | k, 0 => k
  | k, d + 1 => if M k c = 0 then fnd M c (k + 1) d else k
theorem fnd_spec (M : Mx) (c : Nat) : ∀ d k, k ≤ fnd M c k d ∧ fnd M c k d ≤ k + d ∧ (∀ i, k ≤ i → i < fnd M c k d → M i c = 0) ∧ (fnd M c k d < k + d → M (fnd M c k d) c ≠ 0)
  | 0, k => by simp only [fnd]; exact ⟨Nat.le_refl _, Nat.le_refl _, fun i h1 h2 => by omega, fun h => by omega⟩
  | d + 1, k => by
    simp only [fnd]
    by_cases h : M k c = 0
    · rw [if_pos h]
      obtain ⟨h1, h2, h3, h4⟩ := fnd_spec M c d (k + 1)
      refine ⟨by omega, by omega, fun i hi hlt => ?_, fun hlt => h4 (by omega)⟩
      by_cases e : i = k
      · rw [e]; exact h
      · exact h3 i (by omega) hlt
    · rw [if_neg h]
      exact ⟨Nat.le_refl _, by omega, fun i h1 h2 => by omega, fun _ => h⟩
theorem fnd_at {M : Mx} {c d k r : Nat} (h1 : k ≤ r) (h2 : r ≤ k + d) (h3 : ∀ i, k ≤ i → i < r → M i c = 0) (h4 : r < k + d → M r c ≠ 0) : fnd M c k d = r := by
  obtain ⟨g1, g2, g3, g4⟩ := fnd_spec M c d k
  rcases Nat.lt_trichotomy (fnd M c k d) r with h | h | h
  · exact absurd (h3 _ g1 h) (g4 (by omega))
  · exact h
  · exact absurd (g3 _ h1 h) (h4 (by omega))
theorem fnd_congr {M N : Mx} {c : Nat} (h : ∀ i, M i c = N i c) : ∀ d k, fnd M c k d = fnd N c k d
  | 0, k => rfl
  | d + 1, k => by simp only [fnd, h k, fnd_congr h d (k + 1)]

def swp (M : Mx) (k r : Nat) : Mx := fun i => if i = k then M r else if i = r then M k else M i
def scl (M : Mx) (k c : Nat) : Mx := fun i j => if i = k then gm (inv (M k c)) (M k j) else M i j
def swe (M : Mx) (k c : Nat) : Mx := fun i j => if i = k then M i j else M i j ^^^ gm (M i c) (M k j)
/-- Row r is put at k, made 1 in column c, and taken off all others. -/
def nxt (M : Mx) (k r c : Nat) : Mx := swe (scl (swp M k r) k c) k c
def step (R c : Nat) (s : Mx × List Nat) : Mx × List Nat :=
  if fnd s.1 c s.2.length (R - s.2.length) < R then (nxt s.1 s.2.length (fnd s.1 c s.2.length (R - s.2.length)) c, s.2 ++ [c]) else s
def red (R : Nat) (M : Mx) : Nat → Mx × List Nat
  | 0 => (M, [])
  | c + 1 => step R c (red R M c)
theorem step_hit {R c r : Nat} {M : Mx} {L : List Nat} (h1 : L.length ≤ r) (h2 : r < R) (h3 : ∀ i, L.length ≤ i → i < r → M i c = 0) (h4 : M r c ≠ 0) : step R c (M, L) = (nxt M L.length r c, L ++ [c]) := by
  have e : fnd M c L.length (R - L.length) = r := fnd_at h1 (by omega) h3 (fun _ => h4)
  unfold step
  simp only [e]
  rw [if_pos h2]
theorem step_miss {R c : Nat} {M : Mx} {L : List Nat} (h : ∀ i, L.length ≤ i → i < R → M i c = 0) : step R c (M, L) = (M, L) := by
  unfold step
  rw [if_neg]
  intro hlt
  obtain ⟨g1, g2, g3, g4⟩ := fnd_spec M c (R - L.length) L.length
  exact g4 (by simp only at hlt; omega) (h _ g1 hlt)
/-- Which of the two. -/
theorem step_or (R c : Nat) (M : Mx) (L : List Nat) : ((∀ i, L.length ≤ i → i < R → M i c = 0) ∧ step R c (M, L) = (M, L)) ∨ ∃ r, L.length ≤ r ∧ r < R ∧ M r c ≠ 0 ∧ (∀ i, L.length ≤ i → i < r → M i c = 0) ∧ step R c (M, L) = (nxt M L.length r c, L ++ [c]) := by
  obtain ⟨g1, g2, g3, g4⟩ := fnd_spec M c (R - L.length) L.length
  by_cases h : fnd M c L.length (R - L.length) < R
  · exact .inr ⟨_, g1, h, g4 (by omega), g3, step_hit g1 h g3 (g4 (by omega))⟩
  · have h0 : ∀ i, L.length ≤ i → i < R → M i c = 0 := fun i h1 h2 => g3 i h1 (by omega)
    exact .inl ⟨h0, step_miss h0⟩

def Bm (M : Mx) : Prop := ∀ i j, M i j < 256
theorem swp_b {M : Mx} (h : Bm M) (k r : Nat) : Bm (swp M k r) := fun i j => by unfold swp; split; exact h _ _; split; exact h _ _; exact h _ _
theorem scl_b {M : Mx} (h : Bm M) (k c : Nat) : Bm (scl M k c) := fun i j => by unfold scl; split; exact gm_lt _ _; exact h _ _
theorem swe_b {M : Mx} (h : Bm M) (k c : Nat) : Bm (swe M k c) := fun i j => by unfold swe; split; exact h _ _; exact xor_lt (h _ _) (gm_lt _ _)
theorem nxt_b {M : Mx} (h : Bm M) (k r c : Nat) : Bm (nxt M k r c) := swe_b (scl_b (swp_b h k r) k c) k c

/-- What the rows are like when the columns ahead of c are done, and L have rows of their own. -/
structure Ech (R c : Nat) (M : Mx) (L : List Nat) : Prop where
  len : L.length ≤ R
  lt : ∀ (i l : Nat), L[i]? = some l → l < c
  one : ∀ (i l : Nat), L[i]? = some l → M i l = 1
  zero : ∀ (i l k : Nat), L[i]? = some l → k < R → k ≠ i → M k l = 0
  rest : ∀ (k j : Nat), L.length ≤ k → k < R → j < c → M k j = 0
  byt : Bm M
  few : L.length ≤ c
  full : L.length = c → L = List.range c
  srt : ∀ (i i' l l' : Nat), i < i' → L[i]? = some l → L[i']? = some l' → l < l'
theorem Ech.nod {R c : Nat} {M : Mx} {L : List Nat} (h : Ech R c M L) {i i' l : Nat} (h1 : L[i]? = some l) (h2 : L[i']? = some l) : i = i' := by
  rcases Nat.lt_trichotomy i i' with hl | hl | hl
  · exact absurd (h.srt _ _ _ _ hl h1 h2) (by omega)
  · exact hl
  · exact absurd (h.srt _ _ _ _ hl h2 h1) (by omega)
theorem ech_start (R : Nat) {M : Mx} (h : Bm M) : Ech R 0 M [] :=
  ⟨by simp, fun i l h => by simp at h, fun i l h => by simp at h, fun i l k h => by simp at h, fun k j _ _ h => by omega, h, by simp, fun _ => rfl, fun i i' l l' _ h => by simp at h⟩
theorem app_at {L : List Nat} {c i l : Nat} (h : (L ++ [c])[i]? = some l) : L[i]? = some l ∨ (i = L.length ∧ l = c) := by
  rcases Nat.lt_trichotomy i L.length with hi | hi | hi
  · rw [List.getElem?_append_left hi] at h; exact .inl h
  · subst hi; simp at h; exact .inr ⟨rfl, h.symm⟩
  · rw [List.getElem?_eq_none (by simp; omega)] at h; cases h
theorem at_lt {L : List Nat} {i l : Nat} (h : L[i]? = some l) : i < L.length := (List.getElem?_eq_some_iff.1 h).1
theorem gm_inv' {a : Nat} (h : a < 256) (h0 : a ≠ 0) : gm (inv a) a = 1 := by rw [gm_comm]; exact gm_inv h h0
theorem xor_z (a : Nat) : a ^^^ 0 = a := Nat.xor_zero a

section
variable {M : Mx} {R c k r : Nat} {L : List Nat}
theorem nxt_own (M : Mx) (k r c j : Nat) : nxt M k r c k j = gm (inv (M r c)) (M r j) := by simp [nxt, swe, scl, swp]
theorem nxt_oth (M : Mx) {k i : Nat} (r c j : Nat) (h : i ≠ k) : nxt M k r c i j = swp M k r i j ^^^ gm (swp M k r i c) (gm (inv (M r c)) (M r j)) := by simp [nxt, swe, scl, swp, h]
theorem Ech.hit (h : Ech R c M L) (h1 : L.length ≤ r) (h2 : r < R) (h4 : M r c ≠ 0) : Ech R (c + 1) (nxt M L.length r c) (L ++ [c]) := by
  have hb := h.byt
  have hP : Bm (swp M L.length r) := swp_b hb _ _
  have hcol : ∀ l, M r l = 0 → ∀ i, i ≠ L.length → nxt M L.length r c i l = swp M L.length r i l := fun l hl i hi => by rw [nxt_oth M r c l hi, hl, gm_zero_right, gm_zero_right, xor_z]
  have hne : ∀ (i l : Nat), L[i]? = some l → i < L.length := fun i l hi => at_lt hi
  refine ⟨by simp; omega, fun i l hi => ?_, fun i l hi => ?_, fun i l k hi hk hki => ?_, fun k j hk hkR hj => ?_, nxt_b hb _ _ _, by simp; exact h.few, fun hf => ?_, fun i i' l l' hlt hi hi' => ?_⟩
  · rcases app_at hi with hi | ⟨_, rfl⟩
    · exact Nat.lt_succ_of_lt (h.lt i l hi)
    · omega
  · rcases app_at hi with hi | ⟨rfl, rfl⟩
    · have hil := hne i l hi
      rw [hcol l (h.zero i l r hi h2 (by omega)) i (by omega)]
      unfold swp
      rw [if_neg (by omega), if_neg (by omega)]
      exact h.one i l hi
    · rw [nxt_own]; exact gm_inv' (hb _ _) h4
  · rcases app_at hi with hi | ⟨rfl, rfl⟩
    · have hil := hne i l hi
      have hr0 := h.zero i l r hi h2 (by omega)
      by_cases e : k = L.length
      · subst e; rw [nxt_own, hr0, gm_zero_right]
      · rw [hcol l hr0 k e]
        unfold swp
        rw [if_neg e]
        split
        · exact h.zero i l _ hi (by omega) (by omega)
        · exact h.zero i l k hi hk hki
    · rw [nxt_oth M r l l hki, gm_inv' (hb _ _) h4, gm_one (hP _ _), Nat.xor_self]
  · simp only [List.length_append, List.length_cons, List.length_nil] at hk
    have hkn : k ≠ L.length := by omega
    by_cases e : j = c
    · subst e
      rw [nxt_oth M r j j hkn, gm_inv' (hb _ _) h4, gm_one (hP _ _), Nat.xor_self]
    · rw [hcol j (h.rest r j h1 h2 (by omega)) k hkn]
      unfold swp
      rw [if_neg hkn]
      split
      · exact h.rest _ j (Nat.le_refl _) (by omega) (by omega)
      · exact h.rest k j (by omega) hkR (by omega)
  · simp only [List.length_append, List.length_cons, List.length_nil] at hf
    rw [h.full (by omega), List.range_succ]
  · rcases app_at hi' with hi' | ⟨rfl, rfl⟩
    · rcases app_at hi with hi | ⟨rfl, rfl⟩
      · exact h.srt i i' l l' hlt hi hi'
      · have := at_lt hi'; simp only [List.length_append, List.length_cons, List.length_nil] at this; omega
    · rcases app_at hi with hi | ⟨rfl, rfl⟩
      · exact h.lt i l hi
      · omega
theorem Ech.miss (h : Ech R c M L) (h0 : ∀ i, L.length ≤ i → i < R → M i c = 0) : Ech R (c + 1) M L :=
  ⟨h.len, fun i l hi => Nat.lt_succ_of_lt (h.lt i l hi), h.one, h.zero, fun k j hk hkR hj => by
    by_cases e : j = c
    · subst e; exact h0 k hk hkR
    · exact h.rest k j hk hkR (by omega), h.byt, Nat.le_succ_of_le h.few, fun hf => by have := h.few; omega, h.srt⟩
end
theorem Ech.step {R c : Nat} {s : Mx × List Nat} (h : Ech R c s.1 s.2) : Ech R (c + 1) (step R c s).1 (step R c s).2 := by
  obtain ⟨M, L⟩ := s
  rcases step_or R c M L with ⟨h0, e⟩ | ⟨r, h1, h2, h4, h3, e⟩
  · rw [e]; exact h.miss h0
  · rw [e]; exact h.hit h1 h2 h4
theorem red_ech (R : Nat) {M : Mx} (h : Bm M) : ∀ c, Ech R c (red R M c).1 (red R M c).2
  | 0 => ech_start R h
  | c + 1 => (red_ech R h c).step

/-! Sums of bytes, and rows times bytes. -/
def xs : Nat → (Nat → Nat) → Nat
  | 0, _ => 0
  | n + 1, f => xs n f ^^^ f n
theorem xs_congr {f g : Nat → Nat} : ∀ n, (∀ j, j < n → f j = g j) → xs n f = xs n g
  | 0, _ => rfl
  | n + 1, h => by simp only [xs]; rw [xs_congr n (fun j hj => h j (by omega)), h n (by omega)]
theorem xs_zero : ∀ (n : Nat), xs n (fun _ => 0) = 0
  | 0 => rfl
  | n + 1 => by simp only [xs, xs_zero n]; rfl
theorem xs_z {f : Nat → Nat} (n : Nat) (h : ∀ j, j < n → f j = 0) : xs n f = 0 := (xs_congr n h).trans (xs_zero n)
theorem xs_lt {f : Nat → Nat} : ∀ n, (∀ j, j < n → f j < 256) → xs n f < 256
  | 0, _ => by simp [xs]
  | n + 1, h => by simp only [xs]; exact xor_lt (xs_lt n fun j hj => h j (by omega)) (h n (by omega))
theorem xs_xor (f g : Nat → Nat) : ∀ n, xs n (fun j => f j ^^^ g j) = xs n f ^^^ xs n g
  | 0 => by simp [xs]
  | n + 1 => by simp only [xs]; rw [xs_xor f g n, xor4]
theorem xs_gm {f : Nat → Nat} {a : Nat} (ha : a < 256) (hf : ∀ j, f j < 256) : ∀ n, xs n (fun j => gm a (f j)) = gm a (xs n f)
  | 0 => (gm_zero_right a).symm
  | n + 1 => by simp only [xs]; rw [xs_gm ha hf n, gm_xor_right ha (xs_lt n fun j _ => hf j) (hf n)]
theorem xs_single {f : Nat → Nat} {l : Nat} : ∀ n, l < n → (∀ j, j < n → j ≠ l → f j = 0) → xs n f = f l
  | 0, h, _ => by omega
  | n + 1, h, h0 => by
    simp only [xs]
    by_cases e : l = n
    · subst e; rw [xs_z l (fun j hj => h0 j (by omega) (by omega)), Nat.zero_xor]
    · rw [xs_single n (by omega) (fun j hj hne => h0 j (by omega) hne), h0 n (by omega) (by omega), Nat.xor_zero]
def dt (n : Nat) (a v : Nat → Nat) : Nat := xs n (fun j => gm (a j) (v j))
theorem dt_lt (n : Nat) (a v : Nat → Nat) : dt n a v < 256 := xs_lt n fun _ _ => gm_lt _ _
theorem dt_gm {a v : Nat → Nat} {b : Nat} (n : Nat) (hb : b < 256) (ha : ∀ j, a j < 256) (hv : ∀ j, v j < 256) : dt n (fun j => gm b (a j)) v = gm b (dt n a v) := by
  unfold dt
  rw [← xs_gm hb (fun j => gm_lt _ _)]
  exact xs_congr n fun j _ => gm_assoc hb (ha j) (hv j)
theorem dt_xor {a b v : Nat → Nat} (n : Nat) (ha : ∀ j, a j < 256) (hb : ∀ j, b j < 256) (hv : ∀ j, v j < 256) : dt n (fun j => a j ^^^ b j) v = dt n a v ^^^ dt n b v := by
  unfold dt
  rw [← xs_xor]
  exact xs_congr n fun j _ => gm_xor_left (ha j) (hb j) (hv j)

/-- v makes all rows 0. -/
def Null (R n : Nat) (M : Mx) (v : Nat → Nat) : Prop := ∀ i, i < R → dt n (M i) v = 0
theorem swp_null {R n k r : Nat} {M : Mx} {v : Nat → Nat} (hk : k < R) (hr : r < R) : Null R n (swp M k r) v ↔ Null R n M v := by
  constructor
  · intro h i hi
    by_cases e : i = k
    · have := h r hr
      unfold swp at this
      subst e
      by_cases e2 : r = i
      · rw [if_pos e2] at this; rw [e2] at this; exact this
      · rw [if_neg e2, if_pos rfl] at this; exact this
    · by_cases e2 : i = r
      · have := h k hk
        unfold swp at this
        rw [if_pos rfl] at this
        rw [e2]; exact this
      · have := h i hi
        unfold swp at this
        rw [if_neg e, if_neg e2] at this
        exact this
  · intro h i hi
    unfold swp
    split
    · exact h r hr
    · split
      · exact h k hk
      · exact h i hi
theorem scl_null {R n k c : Nat} {M : Mx} {v : Nat → Nat} (hM : Bm M) (hv : ∀ j, v j < 256) (h0 : M k c ≠ 0) : Null R n (scl M k c) v ↔ Null R n M v := by
  have hk : ∀ i, dt n (scl M k c i) v = if i = k then gm (inv (M k c)) (dt n (M k) v) else dt n (M i) v := fun i => by
    by_cases e : i = k
    · subst e
      rw [if_pos rfl, ← dt_gm n (inv_lt _) (hM i) hv]
      unfold scl
      simp
    · rw [if_neg e]
      unfold scl
      simp [e]
  constructor
  · intro h i hi
    have := h i hi
    rw [hk] at this
    by_cases e : i = k
    · rw [if_pos e] at this
      rcases gm_eq_zero.1 this with h1 | h1
      · exact absurd h1 (inv_ne h0)
      · rw [e]; exact h1
    · rw [if_neg e] at this; exact this
  · intro h i hi
    rw [hk]
    split
    · rename_i e
      rw [← e, h i hi, gm_zero_right]
    · exact h i hi
theorem swe_null {R n k c : Nat} {M : Mx} {v : Nat → Nat} (hM : Bm M) (hv : ∀ j, v j < 256) (hkR : k < R) : Null R n (swe M k c) v ↔ Null R n M v := by
  have hk : ∀ i, dt n (swe M k c i) v = if i = k then dt n (M k) v else dt n (M i) v ^^^ gm (M i c) (dt n (M k) v) := fun i => by
    by_cases e : i = k
    · subst e
      rw [if_pos rfl]
      unfold swe
      simp
    · rw [if_neg e, ← dt_gm n (hM i c) (hM k) hv, ← dt_xor n (hM i) (fun j => gm_lt _ _) hv]
      unfold swe
      simp [e]
  constructor
  · intro h i hi
    have h1 := h k hkR
    rw [hk, if_pos rfl] at h1
    have h2 := h i hi
    rw [hk] at h2
    by_cases e : i = k
    · rw [e]; exact h1
    · rw [if_neg e, h1, gm_zero_right, Nat.xor_zero] at h2; exact h2
  · intro h i hi
    rw [hk, h k hkR]
    split
    · rfl
    · rw [h i hi, gm_zero_right]; rfl
theorem nxt_null {R n k r c : Nat} {M : Mx} {v : Nat → Nat} (hM : Bm M) (hv : ∀ j, v j < 256) (hk : k < R) (hr : r < R) (h0 : M r c ≠ 0) : Null R n (nxt M k r c) v ↔ Null R n M v := by
  have h1 := swp_b hM k r
  unfold nxt
  rw [swe_null (scl_b h1 k c) hv hk, scl_null h1 hv (by unfold swp; rw [if_pos rfl]; exact h0), swp_null hk hr]
theorem step_null {R n c : Nat} {s : Mx × List Nat} {v : Nat → Nat} (hM : Bm s.1) (hv : ∀ j, v j < 256) : Null R n (step R c s).1 v ↔ Null R n s.1 v := by
  obtain ⟨M, L⟩ := s
  rcases step_or R c M L with ⟨h0, e⟩ | ⟨r, h1, h2, h4, h3, e⟩
  · rw [e]
  · rw [e]; exact nxt_null hM hv (by omega) h2 h4
theorem red_null {R n : Nat} {M : Mx} {v : Nat → Nat} (hM : Bm M) (hv : ∀ j, v j < 256) : ∀ c, Null R n (red R M c).1 v ↔ Null R n M v
  | 0 => Iff.rfl
  | c + 1 => (step_null (red_ech R hM c).byt hv).trans (red_null hM hv c)

/-! What stands in further columns does not matter. -/
def Ag (w : Nat) (M N : Mx) : Prop := ∀ i j, j < w → M i j = N i j
theorem nxt_ag {w k r c : Nat} {M N : Mx} (h : Ag w M N) (hc : c < w) : Ag w (nxt M k r c) (nxt N k r c) := by
  have h1 : Ag w (swp M k r) (swp N k r) := fun i j hj => by unfold swp; split; exact h _ _ hj; split; exact h _ _ hj; exact h _ _ hj
  have h2 : Ag w (scl (swp M k r) k c) (scl (swp N k r) k c) := fun i j hj => by unfold scl; rw [h1 k c hc, h1 k j hj, h1 i j hj]
  intro i j hj
  unfold nxt swe
  rw [h2 i j hj, h2 i c hc, h2 k j hj]
theorem red_ag (R : Nat) {w : Nat} {M N : Mx} (h : Ag w M N) : ∀ c, c ≤ w → (red R M c).2 = (red R N c).2 ∧ Ag w (red R M c).1 (red R N c).1
  | 0, _ => ⟨rfl, h⟩
  | c + 1, hc => by
    obtain ⟨h1, h2⟩ := red_ag R h c (by omega)
    have hf := fnd_congr (fun i => h2 i c (by omega)) (R - (red R N c).2.length) (red R N c).2.length
    simp only [red, step, h1, hf]
    split
    · exact ⟨rfl, nxt_ag h2 (by omega)⟩
    · exact ⟨h1, h2⟩
theorem nxt_zc {M : Mx} {k r c l : Nat} (h : ∀ i, M i l = 0) (i : Nat) : nxt M k r c i l = 0 := by
  by_cases e : i = k
  · subst e; rw [nxt_own, h, gm_zero_right]
  · rw [nxt_oth M r c l e, h, gm_zero_right, gm_zero_right, xor_z]
    unfold swp
    split
    · exact h _
    · split <;> exact h _
theorem red_zc (R : Nat) {M : Mx} {l : Nat} (h : ∀ i, M i l = 0) : ∀ c i, (red R M c).1 i l = 0
  | 0, i => h i
  | c + 1, i => by
    simp only [red]
    rcases step_or R c (red R M c).1 (red R M c).2 with ⟨_, e⟩ | ⟨r, _, _, _, _, e⟩
    · rw [show step R c (red R M c) = ((red R M c).1, (red R M c).2) from e]; exact red_zc R h c i
    · rw [show step R c (red R M c) = _ from e]; exact nxt_zc (red_zc R h c) i

/-- The rows, and a byte behind each. -/
def aug (n : Nat) (M : Mx) (b : Nat → Nat) : Mx := fun i j => if j < n then M i j else b i
theorem aug_b {n : Nat} {M : Mx} {b : Nat → Nat} (hM : Bm M) (hb : ∀ i, b i < 256) : Bm (aug n M b) := fun i j => by unfold aug; split; exact hM _ _; exact hb _
theorem aug_own (R n : Nat) (M : Mx) (b : Nat → Nat) : (red R (aug n M b) n).2 = (red R M n).2 :=
  (red_ag R (w := n) (M := aug n M b) (N := M) (fun i j hj => by unfold aug; rw [if_pos hj]) n (Nat.le_refl _)).1
theorem aug_or (R n : Nat) (M : Mx) (b : Nat → Nat) : (red R (aug n M b) (n + 1)).2 = (red R M n).2 ∨ (red R (aug n M b) (n + 1)).2 = (red R M n).2 ++ [n] := by
  rw [← aug_own R n M b]
  simp only [red]
  rcases step_or R n (red R (aug n M b) n).1 (red R (aug n M b) n).2 with ⟨_, e⟩ | ⟨r, _, _, _, _, e⟩
  · rw [show step R n (red R (aug n M b) n) = ((red R (aug n M b) n).1, (red R (aug n M b) n).2) from e]; exact .inl rfl
  · rw [show step R n (red R (aug n M b) n) = _ from e]; exact .inr rfl
theorem own_lt {R n : Nat} {M : Mx} (hM : Bm M) : n ∉ (red R M n).2 := fun h => by
  obtain ⟨i, hi⟩ := List.getElem?_of_mem h
  exact absurd ((red_ech R hM n).lt i n hi) (by omega)
/-- There is a solution just if the last column has no row of its own. -/
theorem aug_in {R n : Nat} {M : Mx} (hM : Bm M) (b : Nat → Nat) : n ∈ (red R (aug n M b) (n + 1)).2 ↔ (red R M n).2.length < (red R (aug n M b) (n + 1)).2.length := by
  rcases aug_or R n M b with e | e
  · rw [e]; exact ⟨fun h => absurd h (own_lt hM), fun h => by omega⟩
  · rw [e]; simp
theorem aug_out {R n : Nat} {M : Mx} {b : Nat → Nat} (h : n ∉ (red R (aug n M b) (n + 1)).2) : (red R (aug n M b) (n + 1)).2 = (red R M n).2 := by
  rcases aug_or R n M b with e | e
  · exact e
  · rw [e] at h; exact absurd (by simp) h
theorem aug_rank {R n : Nat} {M : Mx} : (red R (aug n M (fun _ => 0)) (n + 1)).2 = (red R M n).2 := by
  have hz := red_zc R (M := aug n M (fun _ => 0)) (l := n) (fun i => by unfold aug; rw [if_neg (by omega)]) n
  rw [← aug_own R n M (fun _ => 0)]
  simp only [red]
  have e := step_miss (R := R) (c := n) (M := (red R (aug n M (fun _ => 0)) n).1) (L := (red R (aug n M (fun _ => 0)) n).2) (fun i _ _ => hz i)
  rw [show step R n (red R (aug n M (fun _ => 0)) n) = ((red R (aug n M (fun _ => 0)) n).1, (red R (aug n M (fun _ => 0)) n).2) from e]

/-- What is read off, of the first k rows: the last byte of row i stands for its column; all others are 0. -/
def IsX (L : List Nat) (T : Mx) (n k : Nat) (X : Nat → Nat) : Prop :=
  (∀ (i l : Nat), i < k → L[i]? = some l → X l = T i n) ∧ (∀ (c : Nat), (∀ (i : Nat), i < k → L[i]? ≠ some c) → X c = 0)
theorem isx_start (L : List Nat) (T : Mx) (n : Nat) : IsX L T n 0 (fun _ => 0) := ⟨fun i l h => by omega, fun _ _ => rfl⟩
theorem IsX.put {L : List Nat} {T : Mx} {n k l : Nat} {X : Nat → Nat} (h : IsX L T n k X) (hn : ∀ (i : Nat), L[i]? = some l → i = k) (hl : L[k]? = some l) : IsX L T n (k + 1) (fun j => if j = l then T k n else X j) := by
  refine ⟨fun i l' hi hl' => ?_, fun c hc => ?_⟩
  · by_cases e : l' = l
    · subst e
      simp only [if_true]
      rw [hn i hl']
    · simp only [if_neg e]
      by_cases ek : i = k
      · subst ek; rw [hl] at hl'; injection hl' with e2; exact absurd e2.symm e
      · exact h.1 i l' (by omega) hl'
  · have hcl : c ≠ l := fun e => hc k (by omega) (by rw [e]; exact hl)
    simp only [if_neg hcl]
    exact h.2 c fun i hi => hc i (by omega)
theorem IsX.lt {L : List Nat} {T : Mx} {n k : Nat} {X : Nat → Nat} (h : IsX L T n k X) (hT : Bm T) (j : Nat) : X j < 256 := by
  by_cases e : ∃ i : Nat, i < k ∧ L[i]? = some j
  · obtain ⟨i, hi, hl⟩ := e
    rw [h.1 i j hi hl]; exact hT _ _
  · rw [h.2 j fun i hi he => e ⟨i, hi, he⟩]; omega

/-- Bytes, and 1 behind them. -/
def vone (n : Nat) (X : Nat → Nat) : Nat → Nat := fun j => if j < n then X j else 1
theorem vone_lt {n : Nat} {X : Nat → Nat} (h : ∀ j, X j < 256) (j : Nat) : vone n X j < 256 := by unfold vone; split; exact h j; omega
theorem dt_vone {n : Nat} {a X : Nat → Nat} (ha : a n < 256) : dt (n + 1) a (vone n X) = dt n a X ^^^ a n := by
  have e1 : xs n (fun j => gm (a j) (vone n X j)) = xs n (fun j => gm (a j) (X j)) := xs_congr n fun j hj => by unfold vone; rw [if_pos hj]
  have e2 : vone n X n = 1 := by unfold vone; rw [if_neg (by omega)]
  unfold dt
  simp only [xs]
  rw [e1, e2, gm_one ha]
theorem dt_aug {n i : Nat} {M : Mx} {b X : Nat → Nat} (hb : b i < 256) : dt (n + 1) (aug n M b i) (vone n X) = dt n (M i) X ^^^ b i := by
  have e1 : aug n M b i n = b i := by unfold aug; rw [if_neg (by omega)]
  rw [dt_vone (by rw [e1]; exact hb), e1]
  congr 1
  exact xs_congr n fun j hj => by unfold aug; rw [if_pos hj]
theorem xor_eq {a b : Nat} : a ^^^ b = 0 ↔ a = b := by
  constructor
  · intro h
    have : a ^^^ b ^^^ b = 0 ^^^ b := by rw [h]
    rwa [Nat.xor_assoc, Nat.xor_self, Nat.xor_zero, Nat.zero_xor] at this
  · intro h; rw [h, Nat.xor_self]
theorem null_aug {R n : Nat} {M : Mx} {b X : Nat → Nat} (hb : ∀ i, b i < 256) : Null R (n + 1) (aug n M b) (vone n X) ↔ ∀ i, i < R → dt n (M i) X = b i := by
  unfold Null
  constructor
  · intro h i hi
    have := h i hi
    rw [dt_aug (hb i)] at this
    exact xor_eq.1 this
  · intro h i hi
    rw [dt_aug (hb i)]
    exact xor_eq.2 (h i hi)

section
variable {R n : Nat} {M : Mx} {b X v : Nat → Nat}
/-- What is read off solves the equations. -/
theorem solves (hM : Bm M) (hb : ∀ i, b i < 256) (hn : n ∉ (red R (aug n M b) (n + 1)).2)
    (hX : IsX (red R (aug n M b) (n + 1)).2 (red R (aug n M b) (n + 1)).1 n (red R (aug n M b) (n + 1)).2.length X) : ∀ i, i < R → dt n (M i) X = b i := by
  have hA := aug_b (n := n) hM hb
  have hE := red_ech R hA (n + 1)
  have hXb := hX.lt hE.byt
  rw [← null_aug hb, ← red_null hA (vone_lt hXb) (n + 1)]
  revert hE hX hn
  generalize (red R (aug n M b) (n + 1)).1 = T
  generalize (red R (aug n M b) (n + 1)).2 = L
  intro hn hX hE i hi
  rw [dt_vone (hE.byt _ _)]
  refine xor_eq.2 ?_
  by_cases hl : i < L.length
  · obtain ⟨l, hL⟩ : ∃ l, L[i]? = some l := ⟨_, List.getElem?_eq_getElem hl⟩
    have hln : l < n := by
      have h1 := hE.lt i l hL
      have h2 : l ≠ n := fun e => hn (by rw [← e]; exact List.mem_of_getElem? hL)
      omega
    unfold dt
    rw [xs_single (l := l) n hln, hE.one i l hL, gm_one_left (hXb l), hX.1 i l hl hL]
    intro j hj hne
    by_cases e : ∃ k : Nat, k < L.length ∧ L[k]? = some j
    · obtain ⟨k, hk, hL2⟩ := e
      have hki : i ≠ k := fun e => hne (by subst e; rw [hL] at hL2; injection hL2 with e; exact e.symm)
      rw [hE.zero k j i hL2 hi hki, gm_zero_left]
    · rw [hX.2 j fun k hk he => e ⟨k, hk, he⟩, gm_zero_right]
  · have h0 := hE.rest i n (by omega) hi (by omega)
    rw [h0]
    unfold dt
    exact xs_z n fun j hj => by rw [hE.rest i j (by omega) hi (by omega), gm_zero_left]
/-- Where there is a solution the last column has no row of its own. -/
theorem back (hM : Bm M) (hb : ∀ i, b i < 256) (hv : ∀ j, v j < 256) (h : ∀ i, i < R → dt n (M i) v = b i) : n ∉ (red R (aug n M b) (n + 1)).2 := by
  have hA := aug_b (n := n) hM hb
  have hE := red_ech R hA n
  have hN := (red_null (R := R) hA (vone_lt (n := n) hv) n).2 ((null_aug hb).2 h)
  have ho := own_lt (R := R) (n := n) hM
  rw [← aug_own R n M b] at ho
  simp only [red]
  rcases step_or R n (red R (aug n M b) n).1 (red R (aug n M b) n).2 with ⟨_, e⟩ | ⟨r, h1, h2, h4, _, _⟩
  · rw [show step R n (red R (aug n M b) n) = ((red R (aug n M b) n).1, (red R (aug n M b) n).2) from e]; exact ho
  · have h5 := hN r h2
    rw [dt_vone (hE.byt _ _)] at h5
    have h6 : dt n ((red R (aug n M b) n).1 r) v = 0 := xs_z n fun j hj => by rw [hE.rest r j h1 h2 hj, gm_zero_left]
    rw [h6, Nat.zero_xor] at h5
    exact absurd h5 h4
/-- Where all columns have rows of their own there is no other solution. -/
theorem uniq (hM : Bm M) (hb : ∀ i, b i < 256) (hv : ∀ j, v j < 256) (hr : n ≤ (red R M n).2.length) (hn : n ∉ (red R (aug n M b) (n + 1)).2)
    (hX : IsX (red R (aug n M b) (n + 1)).2 (red R (aug n M b) (n + 1)).1 n (red R (aug n M b) (n + 1)).2.length X) (h : ∀ i, i < R → dt n (M i) v = b i) : ∀ j, j < n → v j = X j := by
  have hA := aug_b (n := n) hM hb
  have hE := red_ech R hA (n + 1)
  have hE0 := red_ech R hM n
  have hN := (red_null (R := R) hA (vone_lt (n := n) hv) (n + 1)).2 ((null_aug hb).2 h)
  have hL : (red R (aug n M b) (n + 1)).2 = List.range n := by rw [aug_out hn]; exact hE0.full (by have := hE0.few; omega)
  revert hE hX hN hL
  generalize (red R (aug n M b) (n + 1)).1 = T
  generalize (red R (aug n M b) (n + 1)).2 = L
  intro hX hE hN hL j hj
  subst hL
  have hat : ∀ k, k < n → (List.range n)[k]? = some k := fun k hk => by simp [hk]
  have hjR : j < R := by have := hE.len; simp at this; omega
  have h1 := hN j hjR
  rw [dt_vone (hE.byt _ _)] at h1
  have h2 := xor_eq.1 h1
  unfold dt at h2
  rw [xs_single (l := j) n hj, hE.one j j (hat j hj), gm_one_left (hv j)] at h2
  · rw [h2, hX.1 j j (by simp; exact hj) (hat j hj)]
  · intro k hk hne
    rw [hE.zero k k j (hat k hk) hjR (fun e => hne e.symm), gm_zero_left]
/-- What is read off is 0 but in columns that have a row of their own. -/
theorem free (hn : n ∉ (red R (aug n M b) (n + 1)).2) (hX : IsX (red R (aug n M b) (n + 1)).2 (red R (aug n M b) (n + 1)).1 n (red R (aug n M b) (n + 1)).2.length X) (j : Nat) (hj : j ∉ (red R M n).2) : X j = 0 :=
  hX.2 j fun i _ he => hj (by rw [← aug_out hn]; exact List.mem_of_getElem? he)
end
end Sv
end
section
/- More on polynomials as lists of numbers: what is added at a place, the product's first byte, quotients and what is left, the pieces out of which the polynomial through points is made; no program is named here. -/
namespace Pol
open Gf

theorem ext_co {l m : List Nat} (hl : l.length = m.length) (h : ∀ i, i < l.length → co l i = co m i) : l = m := by
  refine List.ext_getElem hl fun i h1 h2 => ?_
  have := h i h1
  rwa [co_get h1, co_get h2] at this
theorem tr_self {l : List Nat} (h : l = [] ∨ co l (l.length - 1) ≠ 0) : tr l = l := by
  have := tr_take l l.length (Nat.le_refl _) (fun i hi => co_far hi) (by
    rcases h with h | h
    · exact .inl (by rw [h]; rfl)
    · exact .inr h)
  rwa [List.take_length] at this
theorem tr_eq_self {l m : List Nat} (hm : m = [] ∨ co m (m.length - 1) ≠ 0) (h : ∀ i, co l i = co m i) : tr l = m := by rw [tr_ext h, tr_self hm]
theorem self_top {l : List Nat} (h : tr l = l) (h0 : l ≠ []) : co l (l.length - 1) ≠ 0 := by
  have := tr_last (p := l) (by rw [h]; exact h0)
  rwa [h] at this
theorem tr_is_take (l : List Nat) : tr l = l.take (tr l).length := by
  by_cases h : tr l = []
  · rw [h]; rfl
  · exact tr_take l (tr l).length (tr_len l) (fun i hi => co_trlen hi) (.inr (tr_last h))

/-- One step of the product, byte by byte. -/
theorem co_mul_zero (a : Nat) (p q : List Nat) : co (mul (a :: p) q) 0 = gm a (co q 0) := by
  unfold mul; rw [co_add, co_sm, co_zero, Nat.xor_zero]
theorem co_mul_succ (a : Nat) (p q : List Nat) (k : Nat) : co (mul (a :: p) q) (k + 1) = gm a (co q (k + 1)) ^^^ co (mul p q) k := by
  show co (add (sm a q) (0 :: mul p q)) (k + 1) = _
  rw [co_add, co_sm, co_succ]
theorem mul_right_ext (p : List Nat) {q r : List Nat} (h : ∀ i, co q i = co r i) (k : Nat) : co (mul p q) k = co (mul p r) k := by
  induction p generalizing k with
  | nil => rfl
  | cons a p ih =>
    cases k with
    | zero => rw [co_mul_zero, co_mul_zero, h]
    | succ k => rw [co_mul_succ, co_mul_succ, h, ih]
theorem mul_left_tr (p q : List Nat) (k : Nat) : co (mul (tr p) q) k = co (mul p q) k := by
  induction p generalizing k with
  | nil => rfl
  | cons a p ih =>
    have e : ∀ k, co (mul (a :: tr p) q) k = co (mul (a :: p) q) k := fun k => by
      cases k with
      | zero => rw [co_mul_zero, co_mul_zero]
      | succ k => rw [co_mul_succ, co_mul_succ, ih]
    by_cases h : tr p = [] ∧ a = 0
    · have : tr (a :: p) = [] := by rw [tr, if_pos h]
      rw [this, ← e k, h.1, h.2]
      cases k with
      | zero => rw [co_mul_zero, gm_zero_left]; rfl
      | succ k => rw [co_mul_succ, gm_zero_left]; simp [mul, co_nil]
    · rw [tr, if_neg h]; exact e k
theorem mul_tr_tr (p q : List Nat) (k : Nat) : co (mul (tr p) (tr q)) k = co (mul p q) k := by
  rw [mul_left_tr]; exact mul_right_ext p (co_tr q) k
theorem mul_far {p q : List Nat} {m k : Nat} (hq : Dg q m) (h : p.length + m ≤ k + 1) : co (mul p q) k = 0 := by
  induction p generalizing k with
  | nil => exact co_nil k
  | cons a p ih =>
    simp only [List.length_cons] at h
    cases k with
    | zero => rw [co_mul_zero, hq 0 (by omega), gm_zero_right]
    | succ k => rw [co_mul_succ, hq _ (by omega), gm_zero_right, ih (by omega)]; rfl
theorem mul_top {p q : List Nat} {m : Nat} (hp : p ≠ []) (hq : Dg q m) (hm : 1 ≤ m) : co (mul p q) (p.length + m - 2) = gm (co p (p.length - 1)) (co q (m - 1)) := by
  induction p with
  | nil => exact absurd rfl hp
  | cons a p ih =>
    by_cases h : p = []
    · subst h
      simp only [List.length_cons, List.length_nil]
      rw [show 0 + 1 + m - 2 = m - 1 from by omega]
      cases hk : m - 1 with
      | zero => rw [co_mul_zero]; simp [co_zero]
      | succ k => rw [co_mul_succ]; simp [mul, co_nil, co_zero]
    · have hl : 0 < p.length := List.length_pos_iff.2 h
      simp only [List.length_cons]
      rw [show p.length + 1 + m - 2 = (p.length + m - 2) + 1 from by omega, co_mul_succ, hq _ (by omega), gm_zero_right, Nat.zero_xor, ih h, show p.length + 1 - 1 = (p.length - 1) + 1 from by omega, co_succ]
/-- The product's row. -/
def pl (p q : List Nat) : List Nat := (List.range (p.length + q.length - 1)).map (co (mul p q))
theorem pl_len (p q : List Nat) : (pl p q).length = p.length + q.length - 1 := by simp [pl]
theorem co_pl {p q : List Nat} (hp : p ≠ []) (i : Nat) : co (pl p q) i = co (mul p q) i := by
  have hl : 0 < p.length := List.length_pos_iff.2 hp
  by_cases h : i < p.length + q.length - 1
  · rw [co_get (by rw [pl_len]; exact h)]; simp [pl]
  · rw [co_far (by rw [pl_len]; omega), mul_far (Dg.len (Nat.le_refl q.length)) (by omega)]
theorem pl_tr {p q : List Nat} (h1 : tr p ≠ []) (h2 : tr q ≠ []) : tr (mul p q) = pl (tr p) (tr q) := by
  have l1 : 0 < (tr p).length := List.length_pos_iff.2 h1
  have l2 : 0 < (tr q).length := List.length_pos_iff.2 h2
  refine tr_eq_self (.inr ?_) (fun i => by rw [co_pl h1, mul_tr_tr])
  rw [co_pl h1, pl_len, show (tr p).length + (tr q).length - 1 - 1 = (tr p).length + (tr q).length - 2 from by omega, mul_top h1 (Dg.len (Nat.le_refl _)) l2]
  intro h
  rcases gm_eq_zero.1 h with h | h
  · rw [co_tr] at h; exact tr_last h1 h
  · rw [co_tr] at h; exact tr_last h2 h
theorem pl_nil_left {p : List Nat} (q : List Nat) (h : tr p = []) : tr (mul p q) = [] := (tr_nil_iff _).2 (fun i => by rw [← mul_left_tr, h]; exact co_nil i)
theorem pl_nil_right (p : List Nat) {q : List Nat} (h : tr q = []) : tr (mul p q) = [] := (tr_nil_iff _).2 (fun i => by
  rw [mul_right_ext p (r := []) (fun i => by rw [(tr_nil_iff q).1 h, co_nil]), co_mul_nil])

/-! What is added at a place. -/
theorem co_set_ne {l : List Nat} {i j c : Nat} (h : j ≠ i) : co (l.set i c) j = co l j := by
  unfold co; rw [List.getD_eq_getElem?_getD, List.getElem?_set_ne (by omega), List.getD_eq_getElem?_getD]
/-- c times l, added to L from place o on. -/
def addAt (L : List Nat) (o c : Nat) (l : List Nat) : List Nat := (List.range L.length).map (fun j => co L j ^^^ (if o ≤ j then gm c (co l (j - o)) else 0))
theorem addAt_len (L : List Nat) (o c : Nat) (l : List Nat) : (addAt L o c l).length = L.length := by simp [addAt]
theorem co_addAt {L : List Nat} {o : Nat} (c : Nat) {l : List Nat} (h : o + l.length ≤ L.length) (j : Nat) : co (addAt L o c l) j = co L j ^^^ (if o ≤ j then gm c (co l (j - o)) else 0) := by
  by_cases hj : j < L.length
  · rw [co_get (by rw [addAt_len]; exact hj)]; simp [addAt]
  · rw [co_far (by rw [addAt_len]; omega), co_far (p := L) (by omega)]
    by_cases h2 : o ≤ j
    · rw [if_pos h2, co_far (p := l) (by omega), gm_zero_right]; rfl
    · rw [if_neg h2]; rfl
theorem addAt_nil (L : List Nat) (o c : Nat) : addAt L o c [] = L := by
  refine ext_co (addAt_len _ _ _ _) fun i hi => ?_
  rw [addAt_len] at hi
  rw [co_get (by rw [addAt_len]; exact hi)]
  simp [addAt, co_nil, gm_zero_right]
theorem addAt_snoc {L l : List Nat} {o k c x : Nat} (h : o + l.length ≤ L.length) (hx : l[k]? = some x) :
    (addAt L o c (l.take k)).set (o + k) (co (addAt L o c (l.take k)) (o + k) ^^^ gm c x) = addAt L o c (l.take (k + 1)) := by
  have hk : k < l.length := (List.getElem?_eq_some_iff.1 hx).1
  have hxe : x = co l k := by simp [co, hx]
  have t1 : o + (l.take k).length ≤ L.length := by rw [List.length_take]; omega
  have t2 : o + (l.take (k + 1)).length ≤ L.length := by rw [List.length_take]; omega
  refine ext_co (by rw [List.length_set, addAt_len, addAt_len]) fun i hi => ?_
  rw [List.length_set, addAt_len] at hi
  by_cases e : i = o + k
  · subst e
    have : co ((addAt L o c (l.take k)).set (o + k) (co (addAt L o c (l.take k)) (o + k) ^^^ gm c x)) (o + k) = co (addAt L o c (l.take k)) (o + k) ^^^ gm c x := by
      rw [co_get (by rw [List.length_set, addAt_len]; exact hi)]; simp
    rw [this, co_addAt c t1, co_addAt c t2, if_pos (by omega), if_pos (by omega), show o + k - o = k from by omega, co_take_far (Nat.le_refl k), co_take (by omega), gm_zero_right, Nat.xor_zero, hxe]
  · have : co ((addAt L o c (l.take k)).set (o + k) (co (addAt L o c (l.take k)) (o + k) ^^^ gm c x)) i = co (addAt L o c (l.take k)) i := by
      exact co_set_ne e
    rw [this, co_addAt c t1, co_addAt c t2]
    congr 1
    by_cases h2 : o ≤ i
    · rw [if_pos h2, if_pos h2]
      by_cases h3 : i - o < k
      · rw [co_take h3, co_take (by omega)]
      · rw [co_take_far (by omega), co_take_far (by omega)]
    · rw [if_neg h2, if_neg h2]
theorem addAt_bb {L : List Nat} (h : BB L) (o c : Nat) (l : List Nat) : BB (addAt L o c l) := fun x hx => by
  unfold addAt at hx
  obtain ⟨j, _, rfl⟩ := List.mem_map.1 hx
  refine xor_lt (h.co j) ?_
  split
  · exact gm_lt _ _
  · omega

/-! Quotients. -/
theorem mul_set {q : List Nat} {i c : Nat} (d : List Nat) (hi : i < q.length) (h0 : co q i = 0) (k : Nat) : co (mul (q.set i c) d) k = co (mul q d) k ^^^ (if i ≤ k then gm c (co d (k - i)) else 0) := by
  induction q generalizing i k with
  | nil => simp at hi
  | cons a q ih =>
    cases i with
    | zero =>
      have ha : a = 0 := by simpa [co_zero] using h0
      subst ha
      rw [List.set_cons_zero, if_pos (Nat.zero_le _), Nat.sub_zero]
      cases k with
      | zero => rw [co_mul_zero, co_mul_zero, gm_zero_left, Nat.zero_xor]
      | succ k => rw [co_mul_succ, co_mul_succ, gm_zero_left, Nat.zero_xor, Nat.xor_comm]
    | succ i =>
      rw [List.set_cons_succ]
      rw [co_succ] at h0
      cases k with
      | zero => rw [co_mul_zero, co_mul_zero, if_neg (by omega), Nat.xor_zero]
      | succ k =>
        rw [co_mul_succ, co_mul_succ, ih (by simpa using hi) h0, Nat.xor_assoc]
        simp
/-- q and r are what p is by d, and what is left. -/
structure DivOf (p d q r : List Nat) : Prop where
  bq : BB q
  br : BB r
  tq : tr q = q
  tr_ : tr r = r
  lr : r.length < (tr d).length
  lq : q.length ≤ p.length
  eq : ∀ k, co p k = co (mul q d) k ^^^ co r k
/-- What holds when the powers from i on are through: q is 0 below, r is 0 from i + (d's degree) on. -/
structure DivAt (p d q r : List Nat) (i : Nat) : Prop where
  bq : BB q
  br : BB r
  hq : ∀ j, j < i → co q j = 0
  hr : Dg r (i + d.length - 1)
  eq : ∀ k, co p k = co (mul q d) k ^^^ co r k
theorem DivAt.step {p d q r : List Nat} {i c : Nat} (h : DivAt p d q r (i + 1)) (hd : BB d) (hl : 0 < d.length) (h0 : co d (d.length - 1) ≠ 0) (hi : i < q.length) (hlr : i + d.length ≤ r.length)
    (hc : c = dv (co r (i + d.length - 1)) (co d (d.length - 1))) : DivAt p d (q.set i c) (addAt r i c d) i := by
  have hcl : c < 256 := by rw [hc]; exact gm_lt _ _
  have hmulc : gm c (co d (d.length - 1)) = co r (i + d.length - 1) := by rw [hc]; exact gm_dv (h.br.co _) (hd.co _) h0
  refine ⟨?_, addAt_bb h.br _ _ _, ?_, ?_, ?_⟩
  · intro x hx
    rcases List.mem_or_eq_of_mem_set hx with h1 | h1
    · exact h.bq x h1
    · omega
  · intro j hj
    rw [co_set_ne (by omega)]; exact h.hq j (by omega)
  · intro j hj
    rw [co_addAt c hlr, if_pos (by omega)]
    by_cases e : j = i + d.length - 1
    · subst e
      rw [show i + d.length - 1 - i = d.length - 1 from by omega, hmulc, Nat.xor_self]
    · rw [h.hr j (by omega), co_far (p := d) (by omega), gm_zero_right]; rfl
  · intro k
    rw [mul_set d hi (h.hq i (by omega)), co_addAt c hlr, h.eq k, xor4, Nat.xor_comm (co (mul q d) k) (co r k)]
    generalize (if i ≤ k then gm c (co d (k - i)) else 0) = X
    rw [Nat.xor_comm (co r k) (co (mul q d) k)]
    rw [show (co (mul q d) k ^^^ co r k) ^^^ (X ^^^ X) = co (mul q d) k ^^^ co r k by rw [Nat.xor_self, Nat.xor_zero]]
theorem DivAt.start {p d : List Nat} (hp : BB p) (n : Nat) (h : p.length ≤ n + d.length - 1) : DivAt p d (List.replicate n 0) p n := by
  refine ⟨fun x hx => by rw [List.eq_of_mem_replicate hx]; omega, hp, fun j hj => by unfold co; simp [hj], fun i hi => co_far (by omega), fun k => ?_⟩
  have : ∀ (m k : Nat), co (mul (List.replicate m 0) d) k = 0 := by
    intro m
    induction m with
    | zero => intro k; exact co_nil k
    | succ m ih =>
      intro k
      rw [List.replicate_succ]
      cases k with
      | zero => rw [co_mul_zero, gm_zero_left]
      | succ k => rw [co_mul_succ, gm_zero_left, ih]; rfl
  rw [this, Nat.zero_xor]
/-- At the end. -/
theorem DivAt.done {p d q r : List Nat} (h : DivAt (tr p) (tr d) q r 0) (hd : tr d ≠ []) (hl : q.length = (tr p).length - ((tr d).length - 1)) : DivOf p d q (tr r) := by
  have ld : 0 < (tr d).length := List.length_pos_iff.2 hd
  have hr : (tr r).length ≤ (tr d).length - 1 := Dg.tr (h.hr.mono (by omega))
  have hpl := tr_len p
  refine ⟨h.bq, tr_bb h.br, tr_self ?_, tr_tr r, by omega, by omega, fun k => ?_⟩
  · by_cases hq0 : q = []
    · exact .inl hq0
    · have lq : 0 < q.length := List.length_pos_iff.2 hq0
      have hp0 : tr p ≠ [] := fun e => by
        have e2 : (tr p).length = 0 := by rw [e]; rfl
        omega
      refine .inr fun e => ?_
      have h1 := h.eq ((tr p).length - 1)
      rw [show (tr p).length - 1 = q.length + (tr d).length - 2 from by omega, mul_top hq0 (Dg.len (Nat.le_refl _)) ld, e, gm_zero_left, h.hr _ (by omega), ← show (tr p).length - 1 = q.length + (tr d).length - 2 from by omega, co_tr] at h1
      exact tr_last hp0 h1
  · have h1 := h.eq k
    rw [co_tr, mul_right_ext q (co_tr d)] at h1
    rw [h1, co_tr]

/-! The polynomial of some roots, the other way round. -/
theorem lin_mul {p : List Nat} (hp : BB p) (a : Nat) : tr (mul [a, 1] p) = tr (mul p [a, 1]) := tr_ext fun k => by
  cases k with
  | zero =>
    rw [co_mul_zero]
    cases p with
    | nil => simp [mul, co_nil, gm_zero_right]
    | cons b p => rw [co_mul_zero, co_zero, co_zero, gm_comm]
  | succ k =>
    rw [co_mul_succ, co_mul_lin hp, gm_comm]
    congr 1
    cases k with
    | zero => rw [co_mul_zero, gm_one_left (hp.co 0)]
    | succ k => rw [co_mul_succ, gm_one_left (hp.co _)]; simp [mul, co_nil]

/-! The pieces. -/
theorem ev_lin {a x : Nat} (hx : x < 256) : ev x [a, 1] = a ^^^ x := by
  show a ^^^ gm x (1 ^^^ gm x 0) = a ^^^ x
  rw [gm_zero_right, Nat.xor_zero, gm_one hx]
theorem tr_lin (a : Nat) : tr [a, 1] = [a, 1] := tr_self (.inr (by simp [co]))
/-- What divides all roots' polynomial by one of them. -/
theorem piece_ev {xs q r : List Nat} {i : Nat} (hx : BB xs) (hi : i < xs.length) (h : DivOf (rt xs) [xs[i], 1] q r) {y : Nat} (hy : y < 256) : gm (ev y q) (xs[i] ^^^ y) = ev y (rt xs) := by
  have hxi := hx.get hi
  have hlr : r.length ≤ 1 := by have := h.lr; rw [tr_lin] at this; simp at this; omega
  have key : ∀ z, z < 256 → ev z (rt xs) = gm (ev z q) (xs[i] ^^^ z) ^^^ co r 0 := fun z hz => by
    have e1 : ev z (rt xs) = ev z (add (mul q [xs[i], 1]) r) := ev_ext z (fun k => by rw [h.eq k, co_add])
    rw [e1, ev_add (mul_bb _ _) h.br hz, ev_mul h.bq (mul_one_bb _ hxi) hz, ev_lin hz]
    congr 1
    match r, hlr with
    | [], _ => rfl
    | [b], _ => simp [ev, gm_zero_right, co_zero]
  have h0 := key xs[i] hxi
  rw [Nat.xor_self, gm_zero_right, Nat.zero_xor, (ev_rt_zero hx hxi).2 (List.getElem_mem hi)] at h0
  rw [key y hy, ← h0, Nat.xor_zero]
theorem piece_other {xs q r : List Nat} {i j : Nat} (hx : BB xs) (hn : xs.Nodup) (hi : i < xs.length) (hj : j < xs.length) (hne : j ≠ i) (h : DivOf (rt xs) [xs[i], 1] q r) : ev xs[j] q = 0 := by
  have h1 := piece_ev hx hi h (hx.get hj)
  rw [(ev_rt_zero hx (hx.get hj)).2 (List.getElem_mem hj)] at h1
  rcases gm_eq_zero.1 h1 with h2 | h2
  · exact h2
  · exact absurd ((List.getElem_inj hn).1 (xor_eq_zero h2).symm) hne
theorem piece_len {xs q r : List Nat} {i : Nat} (hi : i < xs.length) (h : DivOf (rt xs) [xs[i], 1] q r) : q.length = xs.length := by
  have hlr : r.length ≤ 1 := by have := h.lr; rw [tr_lin] at this; simp at this; omega
  have htop := (rt_top xs).2
  have hl := (rt_top xs).1
  have hq0 : q ≠ [] := fun e => by
    have := h.eq xs.length
    rw [e, htop, co_far (p := r) (by omega)] at this
    simp [mul, co_nil] at this
  have lq : 0 < q.length := List.length_pos_iff.2 hq0
  have hd : Dg [xs[i], 1] 2 := Dg.len (by simp)
  have hm := mul_top hq0 hd (by omega)
  have ht := self_top h.tq hq0
  rcases Nat.lt_trichotomy q.length xs.length with h1 | h1 | h1
  · have := h.eq xs.length
    rw [htop, co_far (p := r) (by omega), mul_far hd (by omega)] at this
    simp at this
  · exact h1
  · have := h.eq q.length
    rw [co_far (by omega), co_far (p := r) (by omega), Nat.xor_zero, show q.length = q.length + 2 - 2 from by omega, hm] at this
    have h3 : co [xs[i], 1] (2 - 1) = 1 := rfl
    rw [h3, gm_one (h.bq.co _)] at this
    exact absurd this.symm ht
theorem piece_self {xs q r : List Nat} {i : Nat} (hx : BB xs) (hn : xs.Nodup) (hi : i < xs.length) (h : DivOf (rt xs) [xs[i], 1] q r) : ev xs[i] q ≠ 0 := fun e => by
  have hl := piece_len hi h
  have hz := no_roots h.bq (Dg.len (Nat.le_of_eq hl)) hx hn (Nat.le_refl _) (fun x hxs => by
    obtain ⟨j, hj, rfl⟩ := List.getElem_of_mem hxs
    by_cases e2 : j = i
    · subst e2; exact e
    · exact piece_other hx hn hi hj e2 h)
  have hq0 : q ≠ [] := fun e => by rw [e] at hl; simp at hl; omega
  exact self_top h.tq hq0 (hz _)
theorem ev_addAt {L l : List Nat} {c x : Nat} (hL : BB L) (hl : BB l) (hc : c < 256) (hx : x < 256) (h : l.length ≤ L.length) : ev x (addAt L 0 c l) = ev x L ^^^ gm c (ev x l) := by
  rw [ev_ext x (q := add L (sm c l)) (fun k => by rw [co_addAt c (by omega), co_add, co_sm, if_pos (Nat.zero_le _), Nat.sub_zero]), ev_add hL (sm_bb _ _) hx, ev_sm hc hx hl]
end Pol
end
section
/- More on slices of bytes: those that lie outside a block, rows that a call has made and turns byte by byte, what 'make' and 'copy' lay. -/
namespace Gw
open Go Go.RowKit Go.Shelf Pol

/-- The slice at A reads as l, and lies not in block g. -/
def SlN (w : World) (g : Nat) (A : Option Addr) (l : List Nat) : Prop :=
  ∀ (i x : Nat), l[i]? = some x → x < 256 ∧ ∃ b off, A = some ⟨b, off, none⟩ ∧ b ≠ g ∧ b < w.heap.size ∧ w.cell? ⟨b, off + i, none⟩ = some (.int .u8 (x : Int))
theorem cell_lt {w : World} {b off : Nat} {v : Value} (h : w.cell? ⟨b, off, none⟩ = some v) : b < w.heap.size := World.block_lt_of_cell? w ⟨b, off, none⟩ h
theorem Sl.away {w : World} {B g : Nat} {A : Option Addr} {l : List Nat} (h : Sl w B A l) (hg : B ≤ g) : SlN w g A l := fun i x hx => by
  obtain ⟨h1, b, off, h2, h3, h4⟩ := h i x hx
  exact ⟨h1, b, off, h2, by omega, cell_lt h4, h4⟩
theorem Own.away {w : World} {base g : Nat} {e : TypeId} {A : Option Addr} {c : Nat} {l : List Nat} (h : Own w base e A c l) (hg : g < base) : SlN w g A l := fun i x hx => by
  obtain ⟨h1, b, off, h2, h3, h4⟩ := h.sl i x hx
  subst h2
  have := (h.1.lt b rfl).1
  exact ⟨h1, b, off, rfl, by omega, h3, h4⟩
theorem SlN.grown {w w' : World} {g : Nat} {A : Option Addr} {l : List Nat} (h : SlN w g A l) (hg : w.grownBy w' (some g)) : SlN w' g A l := fun i x hx => by
  obtain ⟨h1, b, off, h2, h3, h4, h5⟩ := h i x hx
  exact ⟨h1, b, off, h2, h3, Nat.lt_of_lt_of_le h4 hg.size, hg.cell h5 (fun e => h3 (by injection e))⟩
theorem SlN.drewN {w : World} {g : Nat} {A : Option Addr} {l : List Nat} (h : SlN w g A l) (n : Nat) : SlN (w.drewN n) g A l := h
theorem SlN.at_ {w : World} {g : Nat} {A : Option Addr} {l : List Nat} (h : SlN w g A l) {k : Nat} (hk : k < l.length) :
    ∃ x b off, l[k]? = some x ∧ x < 256 ∧ A = some ⟨b, off, none⟩ ∧ b ≠ g ∧ w.cell? ⟨b, off + k, none⟩ = some (.int .u8 (x : Int)) := by
  have e := List.getElem?_eq_getElem hk
  obtain ⟨h1, b, off, h2, h3, _, h4⟩ := h k _ e
  exact ⟨_, b, off, e, h1, h2, h3, h4⟩
theorem SlN.take {w : World} {g : Nat} {A : Option Addr} {l : List Nat} (h : SlN w g A l) (n : Nat) : SlN w g A (l.take n) := fun i x hx => by
  rw [List.getElem?_take] at hx
  split at hx
  · exact h i x hx
  · cases hx
theorem SlN.tr {w : World} {g : Nat} {A : Option Addr} {l : List Nat} (h : SlN w g A l) : SlN w g A (Pol.tr l) := by rw [tr_is_take]; exact h.take _
theorem Sl.tr {w : World} {B : Nat} {A : Option Addr} {l : List Nat} (h : Sl w B A l) : Sl w B A (Pol.tr l) := by rw [tr_is_take]; exact h.take _
theorem In.tr {w : World} {B : Nat} {A : Option Addr} {c : Nat} {l : List Nat} (h : In w B A c l) : In w B A c (Pol.tr l) := ⟨h.sl.tr, Nat.le_trans (tr_len l) h.cap, h.none_⟩

/-- The first bytes of one's own row. -/
theorem Own.take {w : World} {base : Nat} {e : TypeId} {A : Option Addr} {c : Nat} {l : List Nat} (h : Own w base e A c l) (n : Nat) : Own w base e A c (l.take n) := by
  refine ⟨⟨by rw [bys_len, Nat.mul_one], ?_⟩, h.2.take n⟩
  rcases h.1.2 with ⟨hv, h0⟩ | ⟨g, cap, cur, hv, hb, hg, hnc, hm, hs, ht⟩
  · left
    injection hv with h1 h2 h3
    have : l = [] := List.eq_nil_of_length_eq_zero h2
    subst this h1 h3
    exact ⟨by simp, by simp⟩
  · right
    injection hv with h1 h2 h3
    subst h1 h3
    have hle : (l.take n).length ≤ l.length := by rw [List.length_take]; omega
    refine ⟨g, c, cur, rfl, hb, hg, by omega, hm, hs, ?_⟩
    have e1 : (bys l).take (l.take n).length = bys (l.take n) := by
      unfold bys
      rw [← List.map_take]
      congr 1
      rw [List.length_take]
      by_cases hn : n ≤ l.length
      · rw [Nat.min_eq_left hn]
      · rw [Nat.min_eq_right (by omega), List.take_of_length_le (Nat.le_refl _), List.take_of_length_le (by omega)]
    rw [← e1, ← ht, List.take_take]
    congr 1
    omega
theorem Own.tr {w : World} {base : Nat} {e : TypeId} {A : Option Addr} {c : Nat} {l : List Nat} (h : Own w base e A c l) : Own w base e A c (Pol.tr l) := by rw [tr_is_take]; exact h.take _
theorem Own.lt {w : World} {base g off c : Nat} {e : TypeId} {l : List Nat} (h : Own w base e (some ⟨g, off, none⟩) c l) : base ≤ g ∧ g < w.heap.size := h.1.lt g rfl
/-- It stays over what turns another block alone. -/
theorem Own.grown {w w' : World} {base g : Nat} {e : TypeId} {A : Option Addr} {c : Nat} {l : List Nat} (h : Own w base e A c l) (hg : w.grownBy w' (some g)) (hne : ∀ o, A ≠ some ⟨g, o, none⟩) : Own w' base e A c l := by
  refine ⟨h.1.kept hg ?_, h.2⟩
  rcases h.1.2 with ⟨hv, _⟩ | ⟨g2, cap, cur, hv, _⟩
  · injection hv with h1; subst h1; exact .inl rfl
  · injection hv with h1; subst h1; exact .inr (fun e => by simp [Value.ownBlock] at e; exact hne 0 (by rw [e]))
/-- 'make([]byte, n)'. -/
theorem Own.made (w : World) (e : TypeId) (n : Nat) (h : n ≤ 140737488355328) : Own (w.alloc (.cells (madeCells #[.int .u8 0] n) e)) w.heap.size e (some ⟨w.heap.size, 0, none⟩) n (List.replicate n 0) := by
  have hm : (madeCells #[Value.int .u8 0] n).toList = bys (List.replicate n 0) := by
    refine List.ext_getElem (by simp [madeCells, bys]) fun i h1 h2 => ?_
    simp [madeCells, bys, Nat.mod_one]
  have h1 := World.ownsRow_lit (base := w.heap.size) (e := e) (size := 1) w (madeCells #[.int .u8 0] n) n (Nat.le_refl _) (by simp only [maxLen]; omega) (by simp [madeCells])
  rw [hm] at h1
  refine ⟨by rw [List.length_replicate]; exact h1, fun x hx => by rw [List.eq_of_mem_replicate hx]; omega⟩
/-- A byte of it is turned. -/
theorem Own.put {w : World} {base : Nat} {e : TypeId} {g c : Nat} {l : List Nat} (h : Own w base e (some ⟨g, 0, none⟩) c l) {k : Nat} (hk : k < l.length) {y : Nat} (hy : y < 256) :
    Own (w.setCell ⟨g, k, none⟩ (.int .u8 (y : Int))) base e (some ⟨g, 0, none⟩) c (l.set k y) := by
  obtain ⟨g2, e2, _, h2⟩ := h.store hk
  injection e2 with e2
  injection e2 with e3
  subst e3
  exact h2 y hy
theorem Own.cell {w : World} {base : Nat} {e : TypeId} {g c : Nat} {l : List Nat} (h : Own w base e (some ⟨g, 0, none⟩) c l) {k : Nat} (hk : k < l.length) : w.cell? ⟨g, k, none⟩ = some (.int .u8 (co l k : Int)) := by
  obtain ⟨_, b, off, h2, _, h4⟩ := h.sl k _ (List.getElem?_eq_getElem hk)
  injection h2 with h2
  injection h2 with h3 h5
  subst h3 h5
  rw [Nat.zero_add] at h4
  rw [h4, co_get hk]
theorem grown_put {w w' : World} {g k : Nat} (h : w.grownBy w' (some g)) (v : Value) : w.grownBy (w'.setCell ⟨g, k, none⟩ v) (some g) := Lib.grownBy_setB h k v
theorem grown_drewN {w w' : World} {row : Option Nat} (h : w.grownBy w' row) (n : Nat) : w.grownBy (w'.drewN n) row := ⟨h.os, h.tape, h.output, h.size, h.block⟩
theorem grown_drew {w w' : World} {row : Option Nat} (h : w.grownBy w' row) : w.grownBy w'.drew row := ⟨h.os, h.tape, h.output, h.size, h.block⟩
theorem Below.by {w w' : World} {B g : Nat} (h : w.grownBy w' (some g)) (hB : B ≤ w.heap.size) (hg : B ≤ g) : Below B w w' := (Below.refl B w).grown h hB (fun k e => by injection e with e; omega)
theorem Below.grown {w w' : World} {g : Nat} (h : Below w.heap.size w w') : w.grownBy w' (some g) := ⟨h.os, h.tape, h.output, h.size, fun k hk _ => h.block k hk⟩
/-- 'copy' lays l over the first bytes of n noughts. -/
theorem copied {w : World} {base g n c : Nat} {e : TypeId} {l : List Nat} (hbase : base ≤ g) (hg : w.heap[g]? = some (.cells (splice (bys (List.replicate n 0)) 0 (bys l)).toArray e (0, 0))) (hl : l.length ≤ n) (hbb : BB l) (hc : c = n) (hm : n ≤ 140737488355328) :
    Own w base e (some ⟨g, 0, none⟩) c (l ++ List.replicate (n - l.length) 0) := by
  subst hc
  have e1 : splice (bys (List.replicate c 0)) 0 (bys l) = bys (l ++ List.replicate (c - l.length) 0) := by
    unfold splice
    rw [List.take_zero, List.nil_append, bys_len, Nat.zero_add, bys_app]
    congr 1
    unfold bys
    rw [← List.map_drop, List.drop_replicate]
  rw [e1] at hg
  have hlen : (l ++ List.replicate (c - l.length) 0).length = c := by simp; omega
  refine ⟨⟨by rw [bys_len, Nat.mul_one], .inr ⟨g, c, _, rfl, hbase, hg, by omega, by simp only [maxLen]; omega, by simp [bys_len]; omega, ?_⟩⟩, hbb.append (fun x hx => by rw [List.eq_of_mem_replicate hx]; omega)⟩
  rw [Nat.mul_one, hlen]
  exact List.take_of_length_le (by simp [bys_len]; omega)
theorem made_bys (n : Nat) : madeCells #[Value.int .u8 0] n = (bys (List.replicate n 0)).toArray := by
  apply Array.toList_inj.1
  refine List.ext_getElem (by simp [madeCells, bys]) fun i h1 h2 => ?_
  simp [madeCells, bys, Nat.mod_one]
theorem addr_add (b off j : Nat) : (⟨b, off, none⟩ : Addr).add j = ⟨b, off + j, none⟩ := by
  unfold Addr.add; split
  · rename_i h0; subst h0; rfl
  · rfl
/-- 'copy' onto what 'make' has laid. -/
theorem run_copied {P : Program} {w : World} (t ty e : TypeId) (hu : P.underlying t = some (.slice e)) (hs : (P.info? e).map (·.size) = some 1) (n m c : Nat) {A : Option Addr} {B : Nat} {p : List Nat} (hp : Sl w B A p) (hB : B ≤ w.heap.size) (hm : m = p.length) (hn : m ≤ n) (hnb : n ≤ 140737488355328) :
    ∃ w2, (Builtin.copy_ #[t, t] ty #[.slice (some ⟨w.heap.size, 0, none⟩) n n, .slice A m c]).run P (w.alloc (.cells (madeCells #[.int .u8 0] n) e)) = .ok (.int .i64 (m : Int)) w2 ∧
      Own w2 w.heap.size e (some ⟨w.heap.size, 0, none⟩) n (p ++ List.replicate (n - p.length) 0) ∧ Below w.heap.size w w2 := by
  subst hm
  have hB1 : Below w.heap.size w (w.alloc (.cells (madeCells #[.int .u8 0] n) e)) := (Below.refl _ _).alloc (Nat.le_refl _) _
  have hnew : (w.alloc (.cells (madeCells #[.int .u8 0] n) e)).heap[w.heap.size]? = some (.cells (bys (List.replicate n 0)).toArray e (0, 0)) := by
    rw [World.alloc_heap_new, made_bys]
  by_cases h0 : p.length = 0
  · have hr := run_copy_none (P := P) (w.alloc (.cells (madeCells #[.int .u8 0] n) e)) t t ty e (some ⟨w.heap.size, 0, none⟩) A n n p.length c hu hs (by rw [h0]; exact Nat.zero_min _)
    refine ⟨_, hr.trans (by rw [h0]; rfl), ?_, hB1⟩
    have hp0 : p = [] := List.eq_nil_of_length_eq_zero h0
    subst hp0
    exact Own.made w e n hnb
  · obtain ⟨x, b, off, hx, _, rfl, _, _⟩ := hp.at_ (k := 0) (by omega)
    have hr := run_copy_row (P := P) (w.alloc (.cells (madeCells #[.int .u8 0] n) e)) t t ty e w.heap.size 0 n n ⟨b, off, none⟩ p.length c _ e (bys p) hu hs hnew (by rw [bys_len]; exact (Nat.min_eq_left hn).symm) (fun j v hj => by
      obtain ⟨y, hy, rfl⟩ := bys_get hj
      obtain ⟨_, b', off', e', hb', hc'⟩ := hp j y hy
      injection e' with e'
      injection e' with e1 e2
      subst e1 e2
      rw [addr_add]
      exact (World.cell?_alloc_lt w _ _ (by show b < _; omega)).trans hc') (by simp [bys_len]; exact hn) (bys_one p)
    refine ⟨_, hr.trans (by rw [bys_len]; rfl), ?_, below_setRow hB1 (Nat.le_refl _) _⟩
    refine copied (Nat.le_refl _) ?_ hn hp.bb rfl hnb
    rw [setRow_heap _ _ _ _ _ _ hnew]
    simp [splice, bys_len]
theorem co_of' {l : List Nat} {k x : Nat} (h : l[k]? = some x) : co l k = x := by simp [co, h]
end Gw
end
section
/- Rows of bytes in memory: those that are read, and a table of the call's own that is turned. -/
namespace Gw
open Go Go.RowKit Go.Shelf

/-- Blocks stand, but those from lo on that are below hi. -/
structure Kt (lo hi : Nat) (w w' : World) : Prop where
  os : w'.os = w.os
  tape : w'.tape = w.tape
  output : w'.output = w.output
  size : w.heap.size ≤ w'.heap.size
  block : ∀ k, k < w.heap.size → ¬ (lo ≤ k ∧ k < hi) → w'.heap[k]? = w.heap[k]?
theorem Kt.refl (lo hi : Nat) (w : World) : Kt lo hi w w := ⟨rfl, rfl, rfl, Nat.le_refl _, fun _ _ _ => rfl⟩
theorem Kt.trans {lo hi : Nat} {a b c : World} (h : Kt lo hi a b) (k : Kt lo hi b c) : Kt lo hi a c :=
  ⟨k.os.trans h.os, k.tape.trans h.tape, k.output.trans h.output, Nat.le_trans h.size k.size, fun i h1 h2 => (k.block i (Nat.lt_of_lt_of_le h1 h.size) h2).trans (h.block i h1 h2)⟩
theorem Kt.ofBelow {lo hi : Nat} {w w' : World} (h : Below w.heap.size w w') : Kt lo hi w w' := ⟨h.os, h.tape, h.output, h.size, fun k hk _ => h.block k hk⟩
theorem Kt.drewN {lo hi : Nat} {a w : World} (h : Kt lo hi a w) (n : Nat) : Kt lo hi a (w.drewN n) := ⟨h.os, h.tape, h.output, h.size, h.block⟩
theorem Kt.drew {lo hi : Nat} {a w : World} (h : Kt lo hi a w) : Kt lo hi a w.drew := ⟨h.os, h.tape, h.output, h.size, h.block⟩
theorem Kt.alloc {lo hi : Nat} {a w : World} (h : Kt lo hi a w) (o : Obj) : Kt lo hi a (w.alloc o) := h.trans (Kt.ofBelow ((Below.refl _ _).alloc (Nat.le_refl _) o))
theorem Kt.set {lo hi : Nat} {a w : World} (h : Kt lo hi a w) {p : Addr} (hp : lo ≤ p.block ∧ p.block < hi) (u : Value) : Kt lo hi a (w.setCell p u) :=
  h.trans ⟨rfl, rfl, rfl, by simp [World.setCell], fun k _ hk => Below.heap_setCell _ _ _ _ (fun e => hk (by rw [e]; exact hp))⟩
/-- A store into a block that was not there. -/
theorem Kt.setNew {lo hi : Nat} {a w : World} (h : Kt lo hi a w) {p : Addr} (hp : a.heap.size ≤ p.block) (u : Value) : Kt lo hi a (w.setCell p u) :=
  ⟨h.os, h.tape, h.output, by simp [World.setCell]; exact h.size, fun k h1 hk => (Below.heap_setCell _ _ _ _ (by omega)).trans (h.block k h1 hk)⟩
theorem Kt.below {lo hi : Nat} {w w' : World} (h : Kt lo hi w w') (hl : lo ≤ w.heap.size) : Below lo w w' := ⟨h.os, h.tape, h.output, h.size, fun k hk => h.block k (by omega) (by omega)⟩
theorem Kt.cell {lo hi : Nat} {w w' : World} (h : Kt lo hi w w') {b o : Nat} {v : Value} (hc : w.cell? ⟨b, o, none⟩ = some v) (hb : ¬ (lo ≤ b ∧ b < hi)) : w'.cell? ⟨b, o, none⟩ = some v :=
  (World.cell?_of_block (w := w) (a := ⟨b, o, none⟩) (h.block b (cell_lt hc) hb)).trans hc
theorem Row.kt {lo hi b n : Nat} {w w' : World} {f : Nat → Value} (hr : Row w b n f) (h : Kt lo hi w w') (hb : ¬ (lo ≤ b ∧ b < hi)) : Row w' b n f := fun o ho =>
  ⟨h.cell (hr o ho).1 hb, (World.frozen?_of_block (w := w) (a := ⟨b, o, none⟩) (h.block b (cell_lt (hr o ho).1) hb)).trans (hr o ho).2⟩
theorem Row.other {b n g k : Nat} {w : World} {f : Nat → Value} (hr : Row w b n f) (hb : b ≠ g) (v : Value) : Row (w.setCell ⟨g, k, none⟩ v) b n f := fun o ho => by
  refine ⟨?_, by rw [World.frozen?_setCell]; exact (hr o ho).2⟩
  rw [World.cell?_setCell_other _ _ _ _ (fun h => hb (by cases h; rfl))]
  exact (hr o ho).1
theorem Own.kt {lo hi : Nat} {w w' : World} {base : Nat} {e : TypeId} {A : Option Addr} {c : Nat} {l : List Nat} (h : Own w base e A c l) (hk : Kt lo hi w w') (hb : hi ≤ base) : Own w' base e A c l := by
  refine ⟨⟨h.1.1, ?_⟩, h.2⟩
  rcases h.1.2 with h0 | ⟨g, cap, cur, hv, hg, hgb, h0⟩
  · exact .inl h0
  · exact .inr ⟨g, cap, cur, hv, hg, (hk.block g (Array.getElem?_eq_some_iff.1 hgb).1 (by omega)).trans hgb, h0⟩

/-- Rows that are read: row i is l i, at A' i. -/
structure MIn (W : World) (B : Nat) (A : Option Addr) (c R : Nat) (A' : Nat → Option Addr) (c' : Nat → Nat) (l : Nat → List Nat) : Prop where
  rd : ∀ i, i < R → ∃ b off, A = some ⟨b, off, none⟩ ∧ b < B ∧ W.cell? ⟨b, off + i, none⟩ = some (.slice (A' i) (l i).length (c' i)) ∧ In W B (A' i) (c' i) (l i)
  cap : R ≤ c
  none_ : A = none → c = 0
section
variable {W W' : World} {B c R : Nat} {A : Option Addr} {A' : Nat → Option Addr} {c' : Nat → Nat} {l : Nat → List Nat}
theorem MIn.below (h : MIn W B A c R A' c' l) (hb : Below B W W') : MIn W' B A c R A' c' l :=
  ⟨fun i hi => by
    obtain ⟨b, off, h1, h2, h3, h4⟩ := h.rd i hi
    exact ⟨b, off, h1, h2, (hb.cell (p := ⟨b, off + i, none⟩) h2).trans h3, h4.below hb⟩, h.cap, h.none_⟩
theorem MIn.more {B' : Nat} (h : MIn W B A c R A' c' l) (hB : B ≤ B') : MIn W B' A c R A' c' l :=
  ⟨fun i hi => by
    obtain ⟨b, off, h1, h2, h3, h4⟩ := h.rd i hi
    exact ⟨b, off, h1, by omega, h3, h4.more hB⟩, h.cap, h.none_⟩
theorem MIn.drewN (h : MIn W B A c R A' c' l) (n : Nat) : MIn (W.drewN n) B A c R A' c' l := h.below (Below.drewN (Below.refl _ _) n)
theorem MIn.row (h : MIn W B A c R A' c' l) {i : Nat} (hi : i < R) : In W B (A' i) (c' i) (l i) := by
  obtain ⟨b, off, h1, h2, h3, h4⟩ := h.rd i hi
  exact h4
theorem MIn.bb (h : MIn W B A c R A' c' l) {i : Nat} (hi : i < R) : Pol.BB (l i) := (h.row hi).bb
/-- Row i, and byte j of it. -/
theorem MIn.at_ (h : MIn W B A c R A' c' l) {i j : Nat} (hi : i < R) (hj : j < (l i).length) :
    ∃ b off b' off' c0, A = some ⟨b, off, none⟩ ∧ W.cell? ⟨b, off + i, none⟩ = some (.slice (some ⟨b', off', none⟩) (l i).length c0) ∧ W.cell? ⟨b', off' + j, none⟩ = some (.int .u8 (Pol.co (l i) j : Int)) ∧ Pol.co (l i) j < 256 := by
  obtain ⟨b, off, h1, h2, h3, h4⟩ := h.rd i hi
  obtain ⟨x, b', off', hx, hx2, ha, _, hc⟩ := h4.sl.at_ hj
  rw [ha] at h3
  rw [co_of' hx]
  exact ⟨b, off, b', off', _, h1, h3, hc, hx2⟩
end

/-- A table of the call's own: row i, n bytes M i, lies in block bs i; the rows' slices lie in block g. -/
structure Tab (W : World) (lo hi g : Nat) (bs cp : Nat → Nat) (M : Sv.Mx) (R n : Nat) : Prop where
  out : Row W g R (fun i => .slice (some ⟨bs i, 0, none⟩) n (cp i))
  inn : ∀ i, i < R → Row W (bs i) n (fun j => .int .u8 (M i j : Int))
  inj : ∀ i j, i < R → j < R → bs i = bs j → i = j
  ne : ∀ i, i < R → bs i ≠ g
  glo : lo ≤ g ∧ g < hi
  blo : ∀ i, i < R → lo ≤ bs i ∧ bs i < hi
  cap : ∀ i, i < R → n ≤ cp i
  his : hi ≤ W.heap.size
section
variable {W W' : World} {lo hi g R n : Nat} {bs cp : Nat → Nat} {M N : Sv.Mx}
theorem Tab.below {B : Nat} (h : Tab W lo hi g bs cp M R n) (hb : Below B W W') (hB : hi ≤ B) : Tab W' lo hi g bs cp M R n :=
  ⟨h.out.below hb (by have := h.glo; omega), fun i hi' => (h.inn i hi').below hb (by have := h.blo i hi'; omega), h.inj, h.ne, h.glo, h.blo, h.cap, Nat.le_trans h.his hb.size⟩
theorem Tab.drewN (h : Tab W lo hi g bs cp M R n) (k : Nat) : Tab (W.drewN k) lo hi g bs cp M R n := h.below (Below.drewN (Below.refl _ _) k) h.his
theorem Tab.alloc (h : Tab W lo hi g bs cp M R n) (o : Obj) : Tab (W.alloc o) lo hi g bs cp M R n := h.below ((Below.refl _ _).alloc (Nat.le_refl _) o) h.his
theorem Tab.setOld {p : Addr} (h : Tab W lo hi g bs cp M R n) (hp : hi ≤ p.block) (u : Value) : Tab (W.setCell p u) lo hi g bs cp M R n := h.below ((Below.refl hi _).setCell hp u) (Nat.le_refl _)
theorem Tab.congr (h : Tab W lo hi g bs cp M R n) (e : ∀ i j, i < R → j < n → M i j = N i j) : Tab W lo hi g bs cp N R n :=
  ⟨h.out, fun i hi => (h.inn i hi).congr fun j hj => by rw [e i j hi hj], h.inj, h.ne, h.glo, h.blo, h.cap, h.his⟩
theorem Tab.put (h : Tab W lo hi g bs cp M R n) {i j : Nat} (hi' : i < R) (hj : j < n) (y : Nat) :
    Tab (W.setCell ⟨bs i, j, none⟩ (.int .u8 (y : Int))) lo hi g bs cp (fun i' j' => if i' = i ∧ j' = j then y else M i' j') R n := by
  refine ⟨h.out.other (fun e => h.ne i hi' e.symm) _, fun i' hi2 => ?_, h.inj, h.ne, h.glo, h.blo, h.cap, by simp [World.setCell]; exact h.his⟩
  by_cases e : i' = i
  · subst e
    refine ((h.inn i' hi2).set hj _).congr fun o ho => ?_
    by_cases e2 : o = j
    · simp [e2]
    · simp [e2]
  · refine ((h.inn i' hi2).other (fun e2 => e (h.inj _ _ hi2 hi' e2)) _).congr fun o ho => ?_
    simp [e]
/-- Which row stands where behind a swap. -/
def sw (k r : Nat) (f : Nat → Nat) : Nat → Nat := fun i => if i = k then f r else if i = r then f k else f i
theorem Tab.swap (h : Tab W lo hi g bs cp M R n) {k r : Nat} (hk : k < R) (hr : r < R) :
    Tab ((W.setCell ⟨g, k, none⟩ (.slice (some ⟨bs r, 0, none⟩) n (cp r))).setCell ⟨g, r, none⟩ (.slice (some ⟨bs k, 0, none⟩) n (cp k))) lo hi g (sw k r bs) (sw k r cp) (Sv.swp M k r) R n := by
  have hne : ∀ i, i < R → sw k r bs i ≠ g := fun i hi => by unfold sw; split; exact h.ne _ hr; split; exact h.ne _ hk; exact h.ne _ hi
  refine ⟨((h.out.set hk _).set hr _).congr fun i hi => ?_, fun i hi => ?_, fun i j hi hj e => ?_, hne, h.glo, fun i hi => ?_, fun i hi => ?_, by simp [World.setCell]; exact h.his⟩
  · unfold sw
    by_cases e1 : i = r
    · subst e1
      by_cases e2 : i = k
      · subst e2; simp
      · simp [e2]
    · by_cases e2 : i = k
      · subst e2; simp [e1]
      · simp [e1, e2]
  · refine Row.other (Row.other ?_ (hne i hi) _) (hne i hi) _
    unfold sw Sv.swp
    by_cases e2 : i = k
    · subst e2; simp only [if_true]; exact h.inn r hr
    · by_cases e1 : i = r
      · subst e1; simp only [if_neg e2, if_true]; exact h.inn k hk
      · simp only [if_neg e2, if_neg e1]; exact h.inn i hi
  · unfold sw at e
    by_cases i1 : i = k
    · by_cases j1 : j = k
      · omega
      · by_cases j2 : j = r
        · simp only [if_pos i1, if_neg j1, if_pos j2] at e; have := h.inj _ _ hr hk e; omega
        · simp only [if_pos i1, if_neg j1, if_neg j2] at e; have := h.inj _ _ hr hj e; omega
    · by_cases i2 : i = r
      · by_cases j1 : j = k
        · simp only [if_neg i1, if_pos i2, if_pos j1] at e; have := h.inj _ _ hk hr e; omega
        · by_cases j2 : j = r
          · omega
          · simp only [if_neg i1, if_pos i2, if_neg j1, if_neg j2] at e; have := h.inj _ _ hk hj e; omega
      · by_cases j1 : j = k
        · simp only [if_neg i1, if_neg i2, if_pos j1] at e; have := h.inj _ _ hi hr e; omega
        · by_cases j2 : j = r
          · simp only [if_neg i1, if_neg i2, if_neg j1, if_pos j2] at e; have := h.inj _ _ hi hk e; omega
          · simp only [if_neg i1, if_neg i2, if_neg j1, if_neg j2] at e; exact h.inj _ _ hi hj e
  · unfold sw; split; exact h.blo _ hr; split; exact h.blo _ hk; exact h.blo _ hi
  · unfold sw; split; exact h.cap _ hr; split; exact h.cap _ hk; exact h.cap _ hi
end
end Gw
end
section
/- How an argument that is a slice of slices of bytes is opened: rows that are read, and no more of them than the form's own reach. -/
namespace Gw
open Go Go.RowKit Go.Shelf Go.ChangeShapes Go.WideShapes Go.ChangeAt Go.Deep

theorem in_of_ints {W : World} {A : Option Addr} {L C : Nat} {Z : List Int} (hLC : L ≤ C) (hZ : Z.length = C) (hwf : ∀ n ∈ Z, (Lit.int .u8 n).wf = true) (hnone : A = none → C = 0)
    (hcell : ∀ a', A = some a' → ∀ c, c < C → W.cell? (a'.add c) = some (.int .u8 (Z.getD c 0))) : In W W.heap.size A C ((Z.take L).map Int.toNat) ∧ ((Z.take L).map Int.toNat).length = L := by
  have hll : ((Z.take L).map Int.toNat).length = L := by simp; omega
  refine ⟨⟨fun i x hi => ?_, by omega, hnone⟩, hll⟩
  have hil : i < L := by rw [← hll]; exact (List.getElem?_eq_some_iff.1 hi).1
  have hiz : i < Z.length := by omega
  have hx2 : x = (Z[i]).toNat := by
    rw [List.getElem?_map, List.getElem?_take, if_pos (by omega), List.getElem?_eq_getElem hiz] at hi
    simpa using hi.symm
  have hw := bounds_u8 (hwf _ (List.getElem_mem hiz))
  cases A with
  | none => have := hnone rfl; omega
  | some a =>
    have hc0 := hcell a rfl i (by omega)
    have hg : Z.getD i 0 = Z[i] := by simp [List.getD, hiz]
    rw [hg] at hc0
    have hci : ((Z[i]).toNat : Int) = Z[i] := by omega
    obtain ⟨b, off, spot⟩ := a
    have hsp : spot = none := by
      have h0 := World.cell?_spot (hcell _ rfl 0 (by omega))
      simpa [Addr.add] using h0
    subst hsp
    rw [addr_add] at hc0
    exact ⟨by omega, b, off, rfl, cell_lt hc0, by rw [hx2, hci]; exact hc0⟩
theorem open_rows {H : Type} {enc : TypeId × Value → H} {P : Program} {W : World} {t e q : TypeId} {r : Reach} {base : Nat} {v : Value} {d : DataW H} {p : List MemPlace}
    (ht : P.underlying t = some (.slice e)) (he : P.underlying e = some (.slice q)) (hq : P.underlying q = some (.int .u8)) (ce : P.cellsOf e = 1) (cq : P.cellsOf q = 1) (hok : Value.okWide P W r base t v) (h : DataW.Trod enc P W 0 (fun _ => true) true t v d p) :
    ∃ A c R A' c' l, v = .slice A R c ∧ MIn W W.heap.size A c R A' c' l ∧ (∀ i, Pol.BB (l i)) ∧ ((d = .nil ∧ c = 0) ∨ ∃ el sp, d = .slice el sp ∧ el.length + sp.length = c) ∧
      ((d = .nil ∧ R = 0) ∨ ∃ (D : Nat → DataW H) (sp : List (DataW H)), d = .slice ((List.range R).map D) sp ∧ ∀ i, i < R → (D i = .nil ∧ l i = []) ∨ ∃ el sp, D i = .slice el sp ∧ el.length = (l i).length) := by
  obtain ⟨A, len, cap, rfl⟩ := okWide_slice ht hok
  obtain ⟨fuel, hf⟩ := h
  rcases open_int_rows ht he hq ce cq hf with ⟨hcs, hx⟩ | ⟨a, len', cap', A', L, C, Z, hcs, _, hl, hm, hx, hrow⟩
  · simp [Value.cells] at hcs
    obtain ⟨rfl, rfl, rfl⟩ := hcs
    injection hx with hx _
    exact ⟨none, 0, 0, fun _ => none, fun _ => 0, fun _ => [], rfl, ⟨fun i hi => by omega, Nat.le_refl _, fun _ => rfl⟩, fun _ => Pol.BB.nil, .inl ⟨hx, rfl⟩, .inl ⟨hx, rfl⟩⟩
  · simp [Value.cells] at hcs
    obtain ⟨rfl, rfl, rfl⟩ := hcs
    injection hx with hx _
    have hI : ∀ i, i < cap → In W W.heap.size (A' i) (C i) (((Z i).take (L i)).map Int.toNat) ∧ (((Z i).take (L i)).map Int.toNat).length = L i := fun i hi => by
      obtain ⟨_, h1, _, h3, h4, h5, h6⟩ := hrow i hi
      exact in_of_ints h1 h3 h4 h5 (fun a' ha c hc => (h6 a' ha).2 c hc)
    refine ⟨some a, cap, len, A', C, fun i => if i < len then ((Z i).take (L i)).map Int.toNat else [], rfl, ⟨fun i hi => ?_, hl, fun h => by cases h⟩, fun i => ?_, .inr ⟨_, _, hx, by simp; omega⟩, .inr ⟨_, _, hx, fun i hi => ?_⟩⟩
    · obtain ⟨h0, _⟩ := hrow i (by omega)
      obtain ⟨h1, h2⟩ := hI i (by omega)
      simp only [if_pos hi]
      obtain ⟨b, off, spot⟩ := a
      have hsp : spot = none := by
        have h0 := World.cell?_spot (hrow 0 (by omega)).1
        simpa [Addr.add] using h0
      subst hsp
      rw [addr_add] at h0
      exact ⟨b, off, rfl, cell_lt h0, by rw [h2]; exact h0, h1⟩
    · by_cases hi : i < len
      · simp only [if_pos hi]; exact (hI i (by omega)).1.bb
      · simp only [if_neg hi]; exact Pol.BB.nil
    · simp only [if_pos hi]
      obtain ⟨_, h1, _, h3, _, h5, _⟩ := hrow i (by omega)
      cases hA : A' i with
      | none =>
        have h0 := h5 hA
        have h6 : L i = 0 := by omega
        exact .inl ⟨by simp [intRow], by rw [h6]; simp⟩
      | some a' => exact .inr ⟨_, _, by simp only [intRow]; rfl, by simp [lits]⟩
theorem sized_rows {H : Type} {P : Program} {ts : List TypeId} {ds : List (DataW H)} (h : (DataW.weightsEach P ts ds).all (· ≤ reachBytes) = true) {j : Nat} {t e : TypeId} {d : DataW H} {c : Nat} (ht : ts[j]? = some t) (hd : ds[j]? = some d)
    (hu : P.underlying t = some (.slice e)) (hb : P.bytesOf e = 24) (hc : (d = .nil ∧ c = 0) ∨ ∃ el sp, d = .slice el sp ∧ el.length + sp.length = c) : c ≤ 5864062014634 := by
  rcases hc with ⟨_, rfl⟩ | ⟨el, sp, rfl, rfl⟩
  · omega
  · have := sized_slice h ht hd hu
    rw [hb] at this
    simp only [reachBytes] at this
    omega
end Gw
end
section
/- What the definition's own Mul, Inv and Pow (package shamrockref01) do: the same product, inverse and power. -/
namespace Go.Proofs.Ytgikgnhpplmljaa
open Go.RowKit Go.Shelf Gw

theorem cl_step (a b k : Nat) (ha : a < 256) (hk : k < 8) (h : b.testBit k = true) : bits .xor .i64 (Gf.clTo a b k : Int) (wrap64 ((a : Int) * 2 ^ k)) = (Gf.clTo a b (k + 1) : Int) := by
  have h1 : a * 2 ^ k < 32768 := by
    calc a * 2 ^ k < 256 * 2 ^ k := Nat.mul_lt_mul_of_pos_right ha (Nat.two_pow_pos k)
      _ ≤ 256 * 2 ^ 7 := Nat.mul_le_mul_left _ (Nat.pow_le_pow_right (by omega) (by omega))
      _ = 32768 := by decide
  have e : (a : Int) * 2 ^ k = ((a * 2 ^ k : Nat) : Int) := by simp
  have h2 := Gf.clTo_lt ha b k (by omega)
  rw [e, wrap64_nat _ (by omega), i64_xor_nat _ _ (by omega) (by omega), Gf.clTo, if_pos h, Nat.shiftLeft_eq]
theorem cl_stay (a b k : Nat) (h : b.testBit k = false) : (Gf.clTo a b k : Int) = (Gf.clTo a b (k + 1) : Int) := by
  rw [Gf.clTo, if_neg (by simp [h])]

theorem red_step (c n : Nat) (hc : c < 32768) (h8 : 8 ≤ n) (h14 : n ≤ 14) (h : (Gf.redTo c (14 - n)).testBit n = true) : bits .xor .i64 (Gf.redTo c (14 - n) : Int) (wrap64 (283 * 2 ^ (n - 8))) = (Gf.redTo c (14 - (n - 1)) : Int) := by
  have h1 : 283 * 2 ^ (n - 8) < 32768 := by
    calc 283 * 2 ^ (n - 8) ≤ 283 * 2 ^ 6 := Nat.mul_le_mul_left _ (Nat.pow_le_pow_right (by omega) (by omega))
      _ < 32768 := by decide
  have e : (283 : Int) * 2 ^ (n - 8) = ((283 * 2 ^ (n - 8) : Nat) : Int) := by simp
  have h2 := Gf.redTo_lt hc (14 - n) (by omega)
  rw [e, wrap64_nat _ (by omega), i64_xor_nat _ _ (by omega) (by omega), show 14 - (n - 1) = (14 - n) + 1 from by omega, Gf.redTo, show 14 - (14 - n) = n from by omega, if_pos h, Nat.shiftLeft_eq, show 6 - (14 - n) = n - 8 from by omega]
theorem red_stay (c n : Nat) (h8 : 8 ≤ n) (h14 : n ≤ 14) (h : (Gf.redTo c (14 - n)).testBit n = false) : (Gf.redTo c (14 - n) : Int) = (Gf.redTo c (14 - (n - 1)) : Int) := by
  rw [show 14 - (n - 1) = (14 - n) + 1 from by omega, Gf.redTo, show 14 - (14 - n) = n from by omega, if_neg (by simp [h])]
theorem pred_val (n : Nat) (h : 1 ≤ n) : Value.int .i64 ((n : Int) - 1) = Value.int .i64 ((n - 1 : Nat) : Int) := by rw [show ((n - 1 : Nat) : Int) = (n : Int) - 1 from by omega]

set_option maxRecDepth 100000 in
set_option maxHeartbeats 1000000 in
theorem rmul_any (a b : Nat) (ha : a < 256) (hb : b < 256) (w : World) :
    Calls Try.prog 64 #[.int .u8 (a : Int), .int .u8 (b : Int)] w fun e w' => e = .returned (.int .u8 (Gf.gm a b : Int)) ∧ w = w' := by
  go_enter Try.func64, Try.ntmps64
  go_wp2
  go_loop [5, 6] (fun p i => ∃ k : Nat, k ≤ 8 ∧ i = .int .i64 (k : Int) ∧ p = .int .i64 (Gf.clTo a b k : Int)) (fun _ i => 8 - (intOf i).toNat)
  case atStart => exact ⟨0, by omega, rfl, rfl⟩
  case round =>
    obtain ⟨k, hk, rfl, rfl⟩ := hrel
    have hbit := i64_bit b k (by omega)
    by_cases hlt : k < 8
    · cases hbt : b.testBit k
      · rw [hbt] at hbit
        have HB := Lib.hid hbt
        clear hbt
        go_wp2
        go_round
        case rel => exact ⟨k + 1, by omega, by go_num, by rw [← cl_stay a b k HB.out]⟩
        case measure => simp [intOf]; omega
      · rw [hbt] at hbit
        have HB := Lib.hid hbt
        clear hbt
        go_wp2
        go_round
        case rel => exact ⟨k + 1, by omega, by go_num, by rw [cl_step a b k ha hlt HB.out]⟩
        case measure => simp [intOf]; omega
    · obtain rfl : k = 8 := by omega
      have hc := Gf.clTo_lt ha b 8 (by omega)
      have hres := Lib.hid (Gf.ref_mul ha hb)
      clear hbit
      generalize Gf.clTo a b 8 = c at hc hres ⊢
      go_wp2
      go_loop [5, 7] (fun p i => ∃ n : Nat, 7 ≤ n ∧ n ≤ 14 ∧ i = .int .i64 (n : Int) ∧ p = .int .i64 (Gf.redTo c (14 - n) : Int)) (fun _ i => (intOf i).toNat)
      case atStart => exact ⟨14, by omega, by omega, rfl, rfl⟩
      case round =>
        obtain ⟨n, h7, h14, rfl, rfl⟩ := hrel
        have hr := Gf.redTo_lt hc (14 - n) (by omega)
        have hbit := i64_bit (Gf.redTo c (14 - n)) n (by omega)
        by_cases hlt : 8 ≤ n
        · cases hbt : (Gf.redTo c (14 - n)).testBit n
          · rw [hbt] at hbit
            have HB := Lib.hid hbt
            clear hbt
            go_wp2
            go_round
            case rel => exact ⟨n - 1, by omega, by omega, pred_val n (by omega), by rw [← red_stay c n hlt h14 HB.out]⟩
            case measure => simp [intOf]; omega
          · rw [hbt] at hbit
            have HB := Lib.hid hbt
            clear hbt
            go_wp2
            go_round
            case rel => exact ⟨n - 1, by omega, by omega, pred_val n (by omega), by rw [red_step c n hc hlt h14 HB.out]⟩
            case measure => simp [intOf]; omega
        · obtain rfl : n = 7 := by omega
          clear hbit
          go_wp2
          go_ret
          exact ⟨ret_int (by rw [hres.out]; have := Gf.gm_lt a b; omega), rfl⟩

def NoInv (a k : Nat) : Prop := ∀ j, 1 ≤ j → j < k → Gf.gm a j ≠ 1
set_option maxRecDepth 100000 in
set_option maxHeartbeats 1000000 in
/-- The inverse by search. -/
theorem rinv_any (a : Nat) (ha : a < 256) (w : World) :
    Calls Try.prog 68 #[.int .u8 (a : Int)] w fun e w' => e = .returned (.int .u8 (Gf.inv a : Int)) ∧ w = w' := by
  go_enter Try.func68, Try.ntmps68
  go_wp2
  go_loop [3] (fun i => ∃ k : Nat, 1 ≤ k ∧ k ≤ 256 ∧ i = .int .i64 (k : Int) ∧ NoInv a k) (fun i => 256 - (intOf i).toNat)
  case atStart => exact ⟨1, by omega, by omega, rfl, fun j h1 h2 => by omega⟩
  case round =>
    obtain ⟨k, hk1, hk2, rfl, hno⟩ := hrel
    by_cases hlt : k < 256
    · by_cases hone : Gf.gm a k = 1
      · have hB : ((Gf.gm a k : Int) == 1) = true := by rw [beq_iff_eq]; omega
        have HI := Lib.hid (Gf.inv_unique ha hlt hone)
        clear hone
        go_wp2_with fail
        refine (rmul_any a k ha hlt _).mono ?_
        rintro e w' ⟨rfl, rfl⟩
        go_wp2
        go_ret
        exact ⟨ret_int (by rw [← HI.out]), rfl⟩
      · have hB : ((Gf.gm a k : Int) == 1) = false := beq_eq_false_iff_ne.2 (by omega)
        have HO := Lib.hid hone
        clear hone
        go_wp2_with fail
        refine (rmul_any a k ha hlt _).mono ?_
        rintro e w' ⟨rfl, rfl⟩
        go_wp2
        go_round
        case rel => exact ⟨k + 1, by omega, by omega, by go_num, fun j h1 h2 => by
          by_cases e : j = k
          · subst e; exact HO.out
          · exact hno j h1 (by omega)⟩
        case measure => simp [intOf]; omega
    · obtain rfl : k = 256 := by omega
      have a0 : a = 0 := Decidable.byContradiction fun a0 => by
        have h0 := Gf.inv_ne a0
        exact hno (Gf.inv a) (by omega) (Gf.inv_lt a) (Gf.gm_inv ha a0)
      subst a0
      go_wp2
      go_ret
      exact ⟨rfl, rfl⟩

end Go.Proofs.Ytgikgnhpplmljaa
end
section
/- What the program says of bytes. -/
namespace Go.Proofs.Ytgikgnhpplmljaa
open Go.RowKit Go.Shelf Gw
theorem byte_info : (Try.prog.info? 5).map (fun i => (i.zero, i.size, i.bytes)) = some (some (.int .u8 0), 1, 1) := by kernel_rfl
theorem byte_size : (Try.prog.info? 5).map (·.size) = some 1 := by kernel_rfl
end Go.Proofs.Ytgikgnhpplmljaa
end
