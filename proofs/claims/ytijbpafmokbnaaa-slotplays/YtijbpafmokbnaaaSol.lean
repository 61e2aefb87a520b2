/- Rows of bytes made plain, column by column: which columns have a row of their own, and what that says of the equations. -/
import Derived.Test.YtijbpafmokbnaaaPol
namespace Sv
open Gf

/-- Byte j of row i. -/
abbrev Mx := Nat → Nat → Nat

/-- The first row from k on, of d, whose byte in column c is not 0. -/
def fnd (M : Mx) (c : Nat) : Nat → Nat → Nat
  | k, 0 => k
  | k, d + 1 => if M k c = 0 then fnd M c (k + 1) d else k
theorem fnd_spec (M : Mx) (c : Nat) : ∀ d k, k ≤ fnd M c k d ∧ fnd M c k d ≤ k + d ∧ (∀ i, k ≤ i → i < fnd M c k d → M i c = 0) ∧ (fnd M c k d < k + d → M (fnd M c k d) c ≠ 0)
  | 0, k => by simp only [fnd]; exact ⟨Nat.le_refl _, Nat.le_refl _, fun i h1 h2 => by omega, fun h => by omega⟩
  | d + 1, k => by
    simp only [fnd]
    by_cases h : M k c = 0
    · rw [if_pos h]
      obtain ⟨h1, h2, h3, h4⟩ := fnd_spec M c d (k + 1)
      refine ⟨by omega, by omega, fun i hi hlt => ?_, fun hlt => h4 (by omega)⟩
      by_cases e : i = k
      · rw [e]; exact h
      · exact h3 i (by omega) hlt
    · rw [if_neg h]
      exact ⟨Nat.le_refl _, by omega, fun i h1 h2 => by omega, fun _ => h⟩
theorem fnd_at {M : Mx} {c d k r : Nat} (h1 : k ≤ r) (h2 : r ≤ k + d) (h3 : ∀ i, k ≤ i → i < r → M i c = 0) (h4 : r < k + d → M r c ≠ 0) : fnd M c k d = r := by
  obtain ⟨g1, g2, g3, g4⟩ := fnd_spec M c d k
  rcases Nat.lt_trichotomy (fnd M c k d) r with h | h | h
  · exact absurd (h3 _ g1 h) (g4 (by omega))
  · exact h
  · exact absurd (g3 _ h1 h) (h4 (by omega))
theorem fnd_congr {M N : Mx} {c : Nat} (h : ∀ i, M i c = N i c) : ∀ d k, fnd M c k d = fnd N c k d
  | 0, k => rfl
  | d + 1, k => by simp only [fnd, h k, fnd_congr h d (k + 1)]

def swp (M : Mx) (k r : Nat) : Mx := fun i => if i = k then M r else if i = r then M k else M i
def scl (M : Mx) (k c : Nat) : Mx := fun i j => if i = k then gm (inv (M k c)) (M k j) else M i j
def swe (M : Mx) (k c : Nat) : Mx := fun i j => if i = k then M i j else M i j ^^^ gm (M i c) (M k j)
/-- Row r is put at k, made 1 in column c, and taken off all others. -/
def nxt (M : Mx) (k r c : Nat) : Mx := swe (scl (swp M k r) k c) k c
def step (R c : Nat) (s : Mx × List Nat) : Mx × List Nat :=
  if fnd s.1 c s.2.length (R - s.2.length) < R then (nxt s.1 s.2.length (fnd s.1 c s.2.length (R - s.2.length)) c, s.2 ++ [c]) else s
def red (R : Nat) (M : Mx) : Nat → Mx × List Nat
  | 0 => (M, [])
  | c + 1 => step R c (red R M c)
theorem step_hit {R c r : Nat} {M : Mx} {L : List Nat} (h1 : L.length ≤ r) (h2 : r < R) (h3 : ∀ i, L.length ≤ i → i < r → M i c = 0) (h4 : M r c ≠ 0) : step R c (M, L) = (nxt M L.length r c, L ++ [c]) := by
  have e : fnd M c L.length (R - L.length) = r := fnd_at h1 (by omega) h3 (fun _ => h4)
  unfold step
  simp only [e]
  rw [if_pos h2]
theorem step_miss {R c : Nat} {M : Mx} {L : List Nat} (h : ∀ i, L.length ≤ i → i < R → M i c = 0) : step R c (M, L) = (M, L) := by
  unfold step
  rw [if_neg]
  intro hlt
  obtain ⟨g1, g2, g3, g4⟩ := fnd_spec M c (R - L.length) L.length
  exact g4 (by simp only at hlt; omega) (h _ g1 hlt)
/-- Which of the two. -/
theorem step_or (R c : Nat) (M : Mx) (L : List Nat) : ((∀ i, L.length ≤ i → i < R → M i c = 0) ∧ step R c (M, L) = (M, L)) ∨ ∃ r, L.length ≤ r ∧ r < R ∧ M r c ≠ 0 ∧ (∀ i, L.length ≤ i → i < r → M i c = 0) ∧ step R c (M, L) = (nxt M L.length r c, L ++ [c]) := by
  obtain ⟨g1, g2, g3, g4⟩ := fnd_spec M c (R - L.length) L.length
  by_cases h : fnd M c L.length (R - L.length) < R
  · exact .inr ⟨_, g1, h, g4 (by omega), g3, step_hit g1 h g3 (g4 (by omega))⟩
  · have h0 : ∀ i, L.length ≤ i → i < R → M i c = 0 := fun i h1 h2 => g3 i h1 (by omega)
    exact .inl ⟨h0, step_miss h0⟩

def Bm (M : Mx) : Prop := ∀ i j, M i j < 256
theorem swp_b {M : Mx} (h : Bm M) (k r : Nat) : Bm (swp M k r) := fun i j => by unfold swp; split; exact h _ _; split; exact h _ _; exact h _ _
theorem scl_b {M : Mx} (h : Bm M) (k c : Nat) : Bm (scl M k c) := fun i j => by unfold scl; split; exact gm_lt _ _; exact h _ _
theorem swe_b {M : Mx} (h : Bm M) (k c : Nat) : Bm (swe M k c) := fun i j => by unfold swe; split; exact h _ _; exact xor_lt (h _ _) (gm_lt _ _)
theorem nxt_b {M : Mx} (h : Bm M) (k r c : Nat) : Bm (nxt M k r c) := swe_b (scl_b (swp_b h k r) k c) k c

/-- What the rows are like when the columns ahead of c are done, and L have rows of their own. -/
structure Ech (R c : Nat) (M : Mx) (L : List Nat) : Prop where
  len : L.length ≤ R
  lt : ∀ (i l : Nat), L[i]? = some l → l < c
  one : ∀ (i l : Nat), L[i]? = some l → M i l = 1
  zero : ∀ (i l k : Nat), L[i]? = some l → k < R → k ≠ i → M k l = 0
  rest : ∀ (k j : Nat), L.length ≤ k → k < R → j < c → M k j = 0
  byt : Bm M
  few : L.length ≤ c
  full : L.length = c → L = List.range c
  srt : ∀ (i i' l l' : Nat), i < i' → L[i]? = some l → L[i']? = some l' → l < l'
theorem Ech.nod {R c : Nat} {M : Mx} {L : List Nat} (h : Ech R c M L) {i i' l : Nat} (h1 : L[i]? = some l) (h2 : L[i']? = some l) : i = i' := by
  rcases Nat.lt_trichotomy i i' with hl | hl | hl
  · exact absurd (h.srt _ _ _ _ hl h1 h2) (by omega)
  · exact hl
  · exact absurd (h.srt _ _ _ _ hl h2 h1) (by omega)
theorem ech_start (R : Nat) {M : Mx} (h : Bm M) : Ech R 0 M [] :=
  ⟨by simp, fun i l h => by simp at h, fun i l h => by simp at h, fun i l k h => by simp at h, fun k j _ _ h => by omega, h, by simp, fun _ => rfl, fun i i' l l' _ h => by simp at h⟩
theorem app_at {L : List Nat} {c i l : Nat} (h : (L ++ [c])[i]? = some l) : L[i]? = some l ∨ (i = L.length ∧ l = c) := by
  rcases Nat.lt_trichotomy i L.length with hi | hi | hi
  · rw [List.getElem?_append_left hi] at h; exact .inl h
  · subst hi; simp at h; exact .inr ⟨rfl, h.symm⟩
  · rw [List.getElem?_eq_none (by simp; omega)] at h; cases h
theorem at_lt {L : List Nat} {i l : Nat} (h : L[i]? = some l) : i < L.length := (List.getElem?_eq_some_iff.1 h).1
theorem gm_inv' {a : Nat} (h : a < 256) (h0 : a ≠ 0) : gm (inv a) a = 1 := by rw [gm_comm]; exact gm_inv h h0
theorem xor_z (a : Nat) : a ^^^ 0 = a := Nat.xor_zero a

section
variable {M : Mx} {R c k r : Nat} {L : List Nat}
theorem nxt_own (M : Mx) (k r c j : Nat) : nxt M k r c k j = gm (inv (M r c)) (M r j) := by simp [nxt, swe, scl, swp]
theorem nxt_oth (M : Mx) {k i : Nat} (r c j : Nat) (h : i ≠ k) : nxt M k r c i j = swp M k r i j ^^^ gm (swp M k r i c) (gm (inv (M r c)) (M r j)) := by simp [nxt, swe, scl, swp, h]
theorem Ech.hit (h : Ech R c M L) (h1 : L.length ≤ r) (h2 : r < R) (h4 : M r c ≠ 0) : Ech R (c + 1) (nxt M L.length r c) (L ++ [c]) := by
  have hb := h.byt
  have hP : Bm (swp M L.length r) := swp_b hb _ _
  have hcol : ∀ l, M r l = 0 → ∀ i, i ≠ L.length → nxt M L.length r c i l = swp M L.length r i l := fun l hl i hi => by rw [nxt_oth M r c l hi, hl, gm_zero_right, gm_zero_right, xor_z]
  have hne : ∀ (i l : Nat), L[i]? = some l → i < L.length := fun i l hi => at_lt hi
  refine ⟨by simp; omega, fun i l hi => ?_, fun i l hi => ?_, fun i l k hi hk hki => ?_, fun k j hk hkR hj => ?_, nxt_b hb _ _ _, by simp; exact h.few, fun hf => ?_, fun i i' l l' hlt hi hi' => ?_⟩
  · rcases app_at hi with hi | ⟨_, rfl⟩
    · exact Nat.lt_succ_of_lt (h.lt i l hi)
    · omega
  · rcases app_at hi with hi | ⟨rfl, rfl⟩
    · have hil := hne i l hi
      rw [hcol l (h.zero i l r hi h2 (by omega)) i (by omega)]
      unfold swp
      rw [if_neg (by omega), if_neg (by omega)]
      exact h.one i l hi
    · rw [nxt_own]; exact gm_inv' (hb _ _) h4
  · rcases app_at hi with hi | ⟨rfl, rfl⟩
    · have hil := hne i l hi
      have hr0 := h.zero i l r hi h2 (by omega)
      by_cases e : k = L.length
      · subst e; rw [nxt_own, hr0, gm_zero_right]
      · rw [hcol l hr0 k e]
        unfold swp
        rw [if_neg e]
        split
        · exact h.zero i l _ hi (by omega) (by omega)
        · exact h.zero i l k hi hk hki
    · rw [nxt_oth M r l l hki, gm_inv' (hb _ _) h4, gm_one (hP _ _), Nat.xor_self]
  · simp only [List.length_append, List.length_cons, List.length_nil] at hk
    have hkn : k ≠ L.length := by omega
    by_cases e : j = c
    · subst e
      rw [nxt_oth M r j j hkn, gm_inv' (hb _ _) h4, gm_one (hP _ _), Nat.xor_self]
    · rw [hcol j (h.rest r j h1 h2 (by omega)) k hkn]
      unfold swp
      rw [if_neg hkn]
      split
      · exact h.rest _ j (Nat.le_refl _) (by omega) (by omega)
      · exact h.rest k j (by omega) hkR (by omega)
  · simp only [List.length_append, List.length_cons, List.length_nil] at hf
    rw [h.full (by omega), List.range_succ]
  · rcases app_at hi' with hi' | ⟨rfl, rfl⟩
    · rcases app_at hi with hi | ⟨rfl, rfl⟩
      · exact h.srt i i' l l' hlt hi hi'
      · have := at_lt hi'; simp only [List.length_append, List.length_cons, List.length_nil] at this; omega
    · rcases app_at hi with hi | ⟨rfl, rfl⟩
      · exact h.lt i l hi
      · omega
theorem Ech.miss (h : Ech R c M L) (h0 : ∀ i, L.length ≤ i → i < R → M i c = 0) : Ech R (c + 1) M L :=
  ⟨h.len, fun i l hi => Nat.lt_succ_of_lt (h.lt i l hi), h.one, h.zero, fun k j hk hkR hj => by
    by_cases e : j = c
    · subst e; exact h0 k hk hkR
    · exact h.rest k j hk hkR (by omega), h.byt, Nat.le_succ_of_le h.few, fun hf => by have := h.few; omega, h.srt⟩
end
theorem Ech.step {R c : Nat} {s : Mx × List Nat} (h : Ech R c s.1 s.2) : Ech R (c + 1) (step R c s).1 (step R c s).2 := by
  obtain ⟨M, L⟩ := s
  rcases step_or R c M L with ⟨h0, e⟩ | ⟨r, h1, h2, h4, h3, e⟩
  · rw [e]; exact h.miss h0
  · rw [e]; exact h.hit h1 h2 h4
theorem red_ech (R : Nat) {M : Mx} (h : Bm M) : ∀ c, Ech R c (red R M c).1 (red R M c).2
  | 0 => ech_start R h
  | c + 1 => (red_ech R h c).step

/-! Sums of bytes, and rows times bytes. -/
def xs : Nat → (Nat → Nat) → Nat
  | 0, _ => 0
  | n + 1, f => xs n f ^^^ f n
theorem xs_congr {f g : Nat → Nat} : ∀ n, (∀ j, j < n → f j = g j) → xs n f = xs n g
  | 0, _ => rfl
  | n + 1, h => by simp only [xs]; rw [xs_congr n (fun j hj => h j (by omega)), h n (by omega)]
theorem xs_zero : ∀ (n : Nat), xs n (fun _ => 0) = 0
  | 0 => rfl
  | n + 1 => by simp only [xs, xs_zero n]; rfl
theorem xs_z {f : Nat → Nat} (n : Nat) (h : ∀ j, j < n → f j = 0) : xs n f = 0 := (xs_congr n h).trans (xs_zero n)
theorem xs_lt {f : Nat → Nat} : ∀ n, (∀ j, j < n → f j < 256) → xs n f < 256
  | 0, _ => by simp [xs]
  | n + 1, h => by simp only [xs]; exact xor_lt (xs_lt n fun j hj => h j (by omega)) (h n (by omega))
theorem xs_xor (f g : Nat → Nat) : ∀ n, xs n (fun j => f j ^^^ g j) = xs n f ^^^ xs n g
  | 0 => by simp [xs]
  | n + 1 => by simp only [xs]; rw [xs_xor f g n, xor4]
theorem xs_gm {f : Nat → Nat} {a : Nat} (ha : a < 256) (hf : ∀ j, f j < 256) : ∀ n, xs n (fun j => gm a (f j)) = gm a (xs n f)
  | 0 => (gm_zero_right a).symm
  | n + 1 => by simp only [xs]; rw [xs_gm ha hf n, gm_xor_right ha (xs_lt n fun j _ => hf j) (hf n)]
theorem xs_single {f : Nat → Nat} {l : Nat} : ∀ n, l < n → (∀ j, j < n → j ≠ l → f j = 0) → xs n f = f l
  | 0, h, _ => by omega
  | n + 1, h, h0 => by
    simp only [xs]
    by_cases e : l = n
    · subst e; rw [xs_z l (fun j hj => h0 j (by omega) (by omega)), Nat.zero_xor]
    · rw [xs_single n (by omega) (fun j hj hne => h0 j (by omega) hne), h0 n (by omega) (by omega), Nat.xor_zero]
def dt (n : Nat) (a v : Nat → Nat) : Nat := xs n (fun j => gm (a j) (v j))
theorem dt_lt (n : Nat) (a v : Nat → Nat) : dt n a v < 256 := xs_lt n fun _ _ => gm_lt _ _
theorem dt_gm {a v : Nat → Nat} {b : Nat} (n : Nat) (hb : b < 256) (ha : ∀ j, a j < 256) (hv : ∀ j, v j < 256) : dt n (fun j => gm b (a j)) v = gm b (dt n a v) := by
  unfold dt
  rw [← xs_gm hb (fun j => gm_lt _ _)]
  exact xs_congr n fun j _ => gm_assoc hb (ha j) (hv j)
theorem dt_xor {a b v : Nat → Nat} (n : Nat) (ha : ∀ j, a j < 256) (hb : ∀ j, b j < 256) (hv : ∀ j, v j < 256) : dt n (fun j => a j ^^^ b j) v = dt n a v ^^^ dt n b v := by
  unfold dt
  rw [← xs_xor]
  exact xs_congr n fun j _ => gm_xor_left (ha j) (hb j) (hv j)

/-- v makes all rows 0. -/
def Null (R n : Nat) (M : Mx) (v : Nat → Nat) : Prop := ∀ i, i < R → dt n (M i) v = 0
theorem swp_null {R n k r : Nat} {M : Mx} {v : Nat → Nat} (hk : k < R) (hr : r < R) : Null R n (swp M k r) v ↔ Null R n M v := by
  constructor
  · intro h i hi
    by_cases e : i = k
    · have := h r hr
      unfold swp at this
      subst e
      by_cases e2 : r = i
      · rw [if_pos e2] at this; rw [e2] at this; exact this
      · rw [if_neg e2, if_pos rfl] at this; exact this
    · by_cases e2 : i = r
      · have := h k hk
        unfold swp at this
        rw [if_pos rfl] at this
        rw [e2]; exact this
      · have := h i hi
        unfold swp at this
        rw [if_neg e, if_neg e2] at this
        exact this
  · intro h i hi
    unfold swp
    split
    · exact h r hr
    · split
      · exact h k hk
      · exact h i hi
theorem scl_null {R n k c : Nat} {M : Mx} {v : Nat → Nat} (hM : Bm M) (hv : ∀ j, v j < 256) (h0 : M k c ≠ 0) : Null R n (scl M k c) v ↔ Null R n M v := by
  have hk : ∀ i, dt n (scl M k c i) v = if i = k then gm (inv (M k c)) (dt n (M k) v) else dt n (M i) v := fun i => by
    by_cases e : i = k
    · subst e
      rw [if_pos rfl, ← dt_gm n (inv_lt _) (hM i) hv]
      unfold scl
      simp
    · rw [if_neg e]
      unfold scl
      simp [e]
  constructor
  · intro h i hi
    have := h i hi
    rw [hk] at this
    by_cases e : i = k
    · rw [if_pos e] at this
      rcases gm_eq_zero.1 this with h1 | h1
      · exact absurd h1 (inv_ne h0)
      · rw [e]; exact h1
    · rw [if_neg e] at this; exact this
  · intro h i hi
    rw [hk]
    split
    · rename_i e
      rw [← e, h i hi, gm_zero_right]
    · exact h i hi
theorem swe_null {R n k c : Nat} {M : Mx} {v : Nat → Nat} (hM : Bm M) (hv : ∀ j, v j < 256) (hkR : k < R) : Null R n (swe M k c) v ↔ Null R n M v := by
  have hk : ∀ i, dt n (swe M k c i) v = if i = k then dt n (M k) v else dt n (M i) v ^^^ gm (M i c) (dt n (M k) v) := fun i => by
    by_cases e : i = k
    · subst e
      rw [if_pos rfl]
      unfold swe
      simp
    · rw [if_neg e, ← dt_gm n (hM i c) (hM k) hv, ← dt_xor n (hM i) (fun j => gm_lt _ _) hv]
      unfold swe
      simp [e]
  constructor
  · intro h i hi
    have h1 := h k hkR
    rw [hk, if_pos rfl] at h1
    have h2 := h i hi
    rw [hk] at h2
    by_cases e : i = k
    · rw [e]; exact h1
    · rw [if_neg e, h1, gm_zero_right, Nat.xor_zero] at h2; exact h2
  · intro h i hi
    rw [hk, h k hkR]
    split
    · rfl
    · rw [h i hi, gm_zero_right]; rfl
theorem nxt_null {R n k r c : Nat} {M : Mx} {v : Nat → Nat} (hM : Bm M) (hv : ∀ j, v j < 256) (hk : k < R) (hr : r < R) (h0 : M r c ≠ 0) : Null R n (nxt M k r c) v ↔ Null R n M v := by
  have h1 := swp_b hM k r
  unfold nxt
  rw [swe_null (scl_b h1 k c) hv hk, scl_null h1 hv (by unfold swp; rw [if_pos rfl]; exact h0), swp_null hk hr]
theorem step_null {R n c : Nat} {s : Mx × List Nat} {v : Nat → Nat} (hM : Bm s.1) (hv : ∀ j, v j < 256) : Null R n (step R c s).1 v ↔ Null R n s.1 v := by
  obtain ⟨M, L⟩ := s
  rcases step_or R c M L with ⟨h0, e⟩ | ⟨r, h1, h2, h4, h3, e⟩
  · rw [e]
  · rw [e]; exact nxt_null hM hv (by omega) h2 h4
theorem red_null {R n : Nat} {M : Mx} {v : Nat → Nat} (hM : Bm M) (hv : ∀ j, v j < 256) : ∀ c, Null R n (red R M c).1 v ↔ Null R n M v
  | 0 => Iff.rfl
  | c + 1 => (step_null (red_ech R hM c).byt hv).trans (red_null hM hv c)

/-! What stands in further columns does not matter. -/
def Ag (w : Nat) (M N : Mx) : Prop := ∀ i j, j < w → M i j = N i j
theorem nxt_ag {w k r c : Nat} {M N : Mx} (h : Ag w M N) (hc : c < w) : Ag w (nxt M k r c) (nxt N k r c) := by
  have h1 : Ag w (swp M k r) (swp N k r) := fun i j hj => by unfold swp; split; exact h _ _ hj; split; exact h _ _ hj; exact h _ _ hj
  have h2 : Ag w (scl (swp M k r) k c) (scl (swp N k r) k c) := fun i j hj => by unfold scl; rw [h1 k c hc, h1 k j hj, h1 i j hj]
  intro i j hj
  unfold nxt swe
  rw [h2 i j hj, h2 i c hc, h2 k j hj]
theorem red_ag (R : Nat) {w : Nat} {M N : Mx} (h : Ag w M N) : ∀ c, c ≤ w → (red R M c).2 = (red R N c).2 ∧ Ag w (red R M c).1 (red R N c).1
  | 0, _ => ⟨rfl, h⟩
  | c + 1, hc => by
    obtain ⟨h1, h2⟩ := red_ag R h c (by omega)
    have hf := fnd_congr (fun i => h2 i c (by omega)) (R - (red R N c).2.length) (red R N c).2.length
    simp only [red, step, h1, hf]
    split
    · exact ⟨rfl, nxt_ag h2 (by omega)⟩
    · exact ⟨h1, h2⟩
theorem nxt_zc {M : Mx} {k r c l : Nat} (h : ∀ i, M i l = 0) (i : Nat) : nxt M k r c i l = 0 := by
  by_cases e : i = k
  · subst e; rw [nxt_own, h, gm_zero_right]
  · rw [nxt_oth M r c l e, h, gm_zero_right, gm_zero_right, xor_z]
    unfold swp
    split
    · exact h _
    · split <;> exact h _
theorem red_zc (R : Nat) {M : Mx} {l : Nat} (h : ∀ i, M i l = 0) : ∀ c i, (red R M c).1 i l = 0
  | 0, i => h i
  | c + 1, i => by
    simp only [red]
    rcases step_or R c (red R M c).1 (red R M c).2 with ⟨_, e⟩ | ⟨r, _, _, _, _, e⟩
    · rw [show step R c (red R M c) = ((red R M c).1, (red R M c).2) from e]; exact red_zc R h c i
    · rw [show step R c (red R M c) = _ from e]; exact nxt_zc (red_zc R h c) i

/-- The rows, and a byte behind each. -/
def aug (n : Nat) (M : Mx) (b : Nat → Nat) : Mx := fun i j => if j < n then M i j else b i
theorem aug_b {n : Nat} {M : Mx} {b : Nat → Nat} (hM : Bm M) (hb : ∀ i, b i < 256) : Bm (aug n M b) := fun i j => by unfold aug; split; exact hM _ _; exact hb _
theorem aug_own (R n : Nat) (M : Mx) (b : Nat → Nat) : (red R (aug n M b) n).2 = (red R M n).2 :=
  (red_ag R (w := n) (M := aug n M b) (N := M) (fun i j hj => by unfold aug; rw [if_pos hj]) n (Nat.le_refl _)).1
theorem aug_or (R n : Nat) (M : Mx) (b : Nat → Nat) : (red R (aug n M b) (n + 1)).2 = (red R M n).2 ∨ (red R (aug n M b) (n + 1)).2 = (red R M n).2 ++ [n] := by
  rw [← aug_own R n M b]
  simp only [red]
  rcases step_or R n (red R (aug n M b) n).1 (red R (aug n M b) n).2 with ⟨_, e⟩ | ⟨r, _, _, _, _, e⟩
  · rw [show step R n (red R (aug n M b) n) = ((red R (aug n M b) n).1, (red R (aug n M b) n).2) from e]; exact .inl rfl
  · rw [show step R n (red R (aug n M b) n) = _ from e]; exact .inr rfl
theorem own_lt {R n : Nat} {M : Mx} (hM : Bm M) : n ∉ (red R M n).2 := fun h => by
  obtain ⟨i, hi⟩ := List.getElem?_of_mem h
  exact absurd ((red_ech R hM n).lt i n hi) (by omega)
/-- There is a solution just if the last column has no row of its own. -/
theorem aug_in {R n : Nat} {M : Mx} (hM : Bm M) (b : Nat → Nat) : n ∈ (red R (aug n M b) (n + 1)).2 ↔ (red R M n).2.length < (red R (aug n M b) (n + 1)).2.length := by
  rcases aug_or R n M b with e | e
  · rw [e]; exact ⟨fun h => absurd h (own_lt hM), fun h => by omega⟩
  · rw [e]; simp
theorem aug_out {R n : Nat} {M : Mx} {b : Nat → Nat} (h : n ∉ (red R (aug n M b) (n + 1)).2) : (red R (aug n M b) (n + 1)).2 = (red R M n).2 := by
  rcases aug_or R n M b with e | e
  · exact e
  · rw [e] at h; exact absurd (by simp) h
theorem aug_rank {R n : Nat} {M : Mx} : (red R (aug n M (fun _ => 0)) (n + 1)).2 = (red R M n).2 := by
  have hz := red_zc R (M := aug n M (fun _ => 0)) (l := n) (fun i => by unfold aug; rw [if_neg (by omega)]) n
  rw [← aug_own R n M (fun _ => 0)]
  simp only [red]
  have e := step_miss (R := R) (c := n) (M := (red R (aug n M (fun _ => 0)) n).1) (L := (red R (aug n M (fun _ => 0)) n).2) (fun i _ _ => hz i)
  rw [show step R n (red R (aug n M (fun _ => 0)) n) = ((red R (aug n M (fun _ => 0)) n).1, (red R (aug n M (fun _ => 0)) n).2) from e]

/-- What is read off, of the first k rows: the last byte of row i stands for its column; all others are 0. -/
def IsX (L : List Nat) (T : Mx) (n k : Nat) (X : Nat → Nat) : Prop :=
  (∀ (i l : Nat), i < k → L[i]? = some l → X l = T i n) ∧ (∀ (c : Nat), (∀ (i : Nat), i < k → L[i]? ≠ some c) → X c = 0)
theorem isx_start (L : List Nat) (T : Mx) (n : Nat) : IsX L T n 0 (fun _ => 0) := ⟨fun i l h => by omega, fun _ _ => rfl⟩
theorem IsX.put {L : List Nat} {T : Mx} {n k l : Nat} {X : Nat → Nat} (h : IsX L T n k X) (hn : ∀ (i : Nat), L[i]? = some l → i = k) (hl : L[k]? = some l) : IsX L T n (k + 1) (fun j => if j = l then T k n else X j) := by
  refine ⟨fun i l' hi hl' => ?_, fun c hc => ?_⟩
  · by_cases e : l' = l
    · subst e
      simp only [if_true]
      rw [hn i hl']
    · simp only [if_neg e]
      by_cases ek : i = k
      · subst ek; rw [hl] at hl'; injection hl' with e2; exact absurd e2.symm e
      · exact h.1 i l' (by omega) hl'
  · have hcl : c ≠ l := fun e => hc k (by omega) (by rw [e]; exact hl)
    simp only [if_neg hcl]
    exact h.2 c fun i hi => hc i (by omega)
theorem IsX.lt {L : List Nat} {T : Mx} {n k : Nat} {X : Nat → Nat} (h : IsX L T n k X) (hT : Bm T) (j : Nat) : X j < 256 := by
  by_cases e : ∃ i : Nat, i < k ∧ L[i]? = some j
  · obtain ⟨i, hi, hl⟩ := e
    rw [h.1 i j hi hl]; exact hT _ _
  · rw [h.2 j fun i hi he => e ⟨i, hi, he⟩]; omega

/-- Bytes, and 1 behind them. -/
def vone (n : Nat) (X : Nat → Nat) : Nat → Nat := fun j => if j < n then X j else 1
theorem vone_lt {n : Nat} {X : Nat → Nat} (h : ∀ j, X j < 256) (j : Nat) : vone n X j < 256 := by unfold vone; split; exact h j; omega
theorem dt_vone {n : Nat} {a X : Nat → Nat} (ha : a n < 256) : dt (n + 1) a (vone n X) = dt n a X ^^^ a n := by
  have e1 : xs n (fun j => gm (a j) (vone n X j)) = xs n (fun j => gm (a j) (X j)) := xs_congr n fun j hj => by unfold vone; rw [if_pos hj]
  have e2 : vone n X n = 1 := by unfold vone; rw [if_neg (by omega)]
  unfold dt
  simp only [xs]
  rw [e1, e2, gm_one ha]
theorem dt_aug {n i : Nat} {M : Mx} {b X : Nat → Nat} (hb : b i < 256) : dt (n + 1) (aug n M b i) (vone n X) = dt n (M i) X ^^^ b i := by
  have e1 : aug n M b i n = b i := by unfold aug; rw [if_neg (by omega)]
  rw [dt_vone (by rw [e1]; exact hb), e1]
  congr 1
  exact xs_congr n fun j hj => by unfold aug; rw [if_pos hj]
theorem xor_eq {a b : Nat} : a ^^^ b = 0 ↔ a = b := by
  constructor
  · intro h
    have : a ^^^ b ^^^ b = 0 ^^^ b := by rw [h]
    rwa [Nat.xor_assoc, Nat.xor_self, Nat.xor_zero, Nat.zero_xor] at this
  · intro h; rw [h, Nat.xor_self]
theorem null_aug {R n : Nat} {M : Mx} {b X : Nat → Nat} (hb : ∀ i, b i < 256) : Null R (n + 1) (aug n M b) (vone n X) ↔ ∀ i, i < R → dt n (M i) X = b i := by
  unfold Null
  constructor
  · intro h i hi
    have := h i hi
    rw [dt_aug (hb i)] at this
    exact xor_eq.1 this
  · intro h i hi
    rw [dt_aug (hb i)]
    exact xor_eq.2 (h i hi)

section
variable {R n : Nat} {M : Mx} {b X v : Nat → Nat}
/-- What is read off solves the equations. -/
theorem solves (hM : Bm M) (hb : ∀ i, b i < 256) (hn : n ∉ (red R (aug n M b) (n + 1)).2)
    (hX : IsX (red R (aug n M b) (n + 1)).2 (red R (aug n M b) (n + 1)).1 n (red R (aug n M b) (n + 1)).2.length X) : ∀ i, i < R → dt n (M i) X = b i := by
  have hA := aug_b (n := n) hM hb
  have hE := red_ech R hA (n + 1)
  have hXb := hX.lt hE.byt
  rw [← null_aug hb, ← red_null hA (vone_lt hXb) (n + 1)]
  revert hE hX hn
  generalize (red R (aug n M b) (n + 1)).1 = T
  generalize (red R (aug n M b) (n + 1)).2 = L
  intro hn hX hE i hi
  rw [dt_vone (hE.byt _ _)]
  refine xor_eq.2 ?_
  by_cases hl : i < L.length
  · obtain ⟨l, hL⟩ : ∃ l, L[i]? = some l := ⟨_, List.getElem?_eq_getElem hl⟩
    have hln : l < n := by
      have h1 := hE.lt i l hL
      have h2 : l ≠ n := fun e => hn (by rw [← e]; exact List.mem_of_getElem? hL)
      omega
    unfold dt
    rw [xs_single (l := l) n hln, hE.one i l hL, gm_one_left (hXb l), hX.1 i l hl hL]
    intro j hj hne
    by_cases e : ∃ k : Nat, k < L.length ∧ L[k]? = some j
    · obtain ⟨k, hk, hL2⟩ := e
      have hki : i ≠ k := fun e => hne (by subst e; rw [hL] at hL2; injection hL2 with e; exact e.symm)
      rw [hE.zero k j i hL2 hi hki, gm_zero_left]
    · rw [hX.2 j fun k hk he => e ⟨k, hk, he⟩, gm_zero_right]
  · have h0 := hE.rest i n (by omega) hi (by omega)
    rw [h0]
    unfold dt
    exact xs_z n fun j hj => by rw [hE.rest i j (by omega) hi (by omega), gm_zero_left]
/-- Where there is a solution the last column has no row of its own. -/
theorem back (hM : Bm M) (hb : ∀ i, b i < 256) (hv : ∀ j, v j < 256) (h : ∀ i, i < R → dt n (M i) v = b i) : n ∉ (red R (aug n M b) (n + 1)).2 := by
  have hA := aug_b (n := n) hM hb
  have hE := red_ech R hA n
  have hN := (red_null (R := R) hA (vone_lt (n := n) hv) n).2 ((null_aug hb).2 h)
  have ho := own_lt (R := R) (n := n) hM
  rw [← aug_own R n M b] at ho
  simp only [red]
  rcases step_or R n (red R (aug n M b) n).1 (red R (aug n M b) n).2 with ⟨_, e⟩ | ⟨r, h1, h2, h4, _, _⟩
  · rw [show step R n (red R (aug n M b) n) = ((red R (aug n M b) n).1, (red R (aug n M b) n).2) from e]; exact ho
  · have h5 := hN r h2
    rw [dt_vone (hE.byt _ _)] at h5
    have h6 : dt n ((red R (aug n M b) n).1 r) v = 0 := xs_z n fun j hj => by rw [hE.rest r j h1 h2 hj, gm_zero_left]
    rw [h6, Nat.zero_xor] at h5
    exact absurd h5 h4
/-- Where all columns have rows of their own there is no other solution. -/
theorem uniq (hM : Bm M) (hb : ∀ i, b i < 256) (hv : ∀ j, v j < 256) (hr : n ≤ (red R M n).2.length) (hn : n ∉ (red R (aug n M b) (n + 1)).2)
    (hX : IsX (red R (aug n M b) (n + 1)).2 (red R (aug n M b) (n + 1)).1 n (red R (aug n M b) (n + 1)).2.length X) (h : ∀ i, i < R → dt n (M i) v = b i) : ∀ j, j < n → v j = X j := by
  have hA := aug_b (n := n) hM hb
  have hE := red_ech R hA (n + 1)
  have hE0 := red_ech R hM n
  have hN := (red_null (R := R) hA (vone_lt (n := n) hv) (n + 1)).2 ((null_aug hb).2 h)
  have hL : (red R (aug n M b) (n + 1)).2 = List.range n := by rw [aug_out hn]; exact hE0.full (by have := hE0.few; omega)
  revert hE hX hN hL
  generalize (red R (aug n M b) (n + 1)).1 = T
  generalize (red R (aug n M b) (n + 1)).2 = L
  intro hX hE hN hL j hj
  subst hL
  have hat : ∀ k, k < n → (List.range n)[k]? = some k := fun k hk => by simp [hk]
  have hjR : j < R := by have := hE.len; simp at this; omega
  have h1 := hN j hjR
  rw [dt_vone (hE.byt _ _)] at h1
  have h2 := xor_eq.1 h1
  unfold dt at h2
  rw [xs_single (l := j) n hj, hE.one j j (hat j hj), gm_one_left (hv j)] at h2
  · rw [h2, hX.1 j j (by simp; exact hj) (hat j hj)]
  · intro k hk hne
    rw [hE.zero k k j (hat k hk) hjR (fun e => hne e.symm), gm_zero_left]
/-- What is read off is 0 but in columns that have a row of their own. -/
theorem free (hn : n ∉ (red R (aug n M b) (n + 1)).2) (hX : IsX (red R (aug n M b) (n + 1)).2 (red R (aug n M b) (n + 1)).1 n (red R (aug n M b) (n + 1)).2.length X) (j : Nat) (hj : j ∉ (red R M n).2) : X j = 0 :=
  hX.2 j fun i _ he => hj (by rw [← aug_out hn]; exact List.mem_of_getElem? he)
end
end Sv
