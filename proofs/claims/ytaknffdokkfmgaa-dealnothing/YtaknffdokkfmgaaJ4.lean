import Derived.Test.YtaknffdokkfmgaaProg
import Derived.Test.YtaknffdokkfmgaaJ1
import Derived.Test.YtaknffdokkfmgaaJ2
import Derived.Test.YtaknffdokkfmgaaJ3
section
/- Rows of bytes made plain, column by column: which columns have a row of their own, and what that says of the equations. -/
namespace Sv
open Gf

/-- Byte j of row i. -/
abbrev Mx := Nat → Nat → Nat

/-- The first row from k on, of d, whose byte in column c is not 0. -/
def fnd (M : Mx) (c : Nat) : Nat → Nat → Nat
  | k, 0 => k
  | k, d + 1 => if M k c = 0 then fnd M c (k + 1) d else k
theorem fnd_spec (M : Mx) (c : Nat) : ∀ d k, k ≤ fnd M c k d ∧ fnd M c k d ≤ k + d ∧ (∀ i, k ≤ i → i < fnd M c k d → M i c = 0) ∧ (fnd M c k d < k + d → M (fnd M c k d) c ≠ 0)
  | 0, k => by simp only [fnd]; exact ⟨Nat.le_refl _, Nat.le_refl _, fun i h1 h2 => by omega, fun h => by omega⟩
  | d + 1, k => by
    simp only [fnd]
    by_cases h : M k c = 0
    · rw [if_pos h]
      obtain ⟨h1, h2, h3, h4⟩ := fnd_spec M c d (k + 1)
      refine ⟨by omega, by omega, fun i hi hlt => ?_, fun hlt => h4 (by omega)⟩
      by_cases e : i = k
      · rw [e]; exact h
      · exact h3 i (by omega) hlt
    · rw [if_neg h]
      exact ⟨Nat.le_refl _, by omega, fun i h1 h2 => by omega, fun _ => h⟩
theorem fnd_at {M : Mx} {c d k r : Nat} (h1 : k ≤ r) (h2 : r ≤ k + d) (h3 : ∀ i, k ≤ i → i < r → M i c = 0) (h4 : r < k + d → M r c ≠ 0) : fnd M c k d = r := by
  obtain ⟨g1, g2, g3, g4⟩ := fnd_spec M c d k
  rcases Nat.lt_trichotomy (fnd M c k d) r with h | h | h
  · exact absurd (h3 _ g1 h) (g4 (by omega))
  · exact h
  · exact absurd (g3 _ h1 h) (h4 (by omega))
theorem fnd_congr {M N : Mx} {c : Nat} (h : ∀ i, M i c = N i c) : ∀ d k, fnd M c k d = fnd N c k d
  | 0, k => rfl
  | d + 1, k => by simp only [fnd, h k, fnd_congr h d (k + 1)]

def swp (M : Mx) (k r : Nat) : Mx := fun i => if i = k then M r else if i = r then M k else M i
def scl (M : Mx) (k c : Nat) : Mx := fun i j => if i = k then gm (inv (M k c)) (M k j) else M i j
def swe (M : Mx) (k c : Nat) : Mx := fun i j => if i = k then M i j else M i j ^^^ gm (M i c) (M k j)
/-- Row r is put at k, made 1 in column c, and taken off all others. -/
def nxt (M : Mx) (k r c : Nat) : Mx := swe (scl (swp M k r) k c) k c
def step (R c : Nat) (s : Mx × List Nat) : Mx × List Nat :=
  if fnd s.1 c s.2.length (R - s.2.length) < R then (nxt s.1 s.2.length (fnd s.1 c s.2.length (R - s.2.length)) c, s.2 ++ [c]) else s
def red (R : Nat) (M : Mx) : Nat → Mx × List Nat
  | 0 => (M, [])
  | c + 1 => step R c (red R M c)
theorem step_hit {R c r : Nat} {M : Mx} {L : List Nat} (h1 : L.length ≤ r) (h2 : r < R) (h3 : ∀ i, L.length ≤ i → i < r → M i c = 0) (h4 : M r c ≠ 0) : step R c (M, L) = (nxt M L.length r c, L ++ [c]) := by
  have e : fnd M c L.length (R - L.length) = r := fnd_at h1 (by omega) h3 (fun _ => h4)
  unfold step
  simp only [e]
  rw [if_pos h2]
theorem step_miss {R c : Nat} {M : Mx} {L : List Nat} (h : ∀ i, L.length ≤ i → i < R → M i c = 0) : step R c (M, L) = (M, L) := by
  unfold step
  rw [if_neg]
  intro hlt
  obtain ⟨g1, g2, g3, g4⟩ := fnd_spec M c (R - L.length) L.length
  exact g4 (by simp only at hlt; omega) (h _ g1 hlt)
/-- Which of the two. -/
theorem step_or (R c : Nat) (M : Mx) (L : List Nat) : ((∀ i, L.length ≤ i → i < R → M i c = 0) ∧ step R c (M, L) = (M, L)) ∨ ∃ r, L.length ≤ r ∧ r < R ∧ M r c ≠ 0 ∧ (∀ i, L.length ≤ i → i < r → M i c = 0) ∧ step R c (M, L) = (nxt M L.length r c, L ++ [c]) := by
  obtain ⟨g1, g2, g3, g4⟩ := fnd_spec M c (R - L.length) L.length
  by_cases h : fnd M c L.length (R - L.length) < R
  · exact .inr ⟨_, g1, h, g4 (by omega), g3, step_hit g1 h g3 (g4 (by omega))⟩
  · have h0 : ∀ i, L.length ≤ i → i < R → M i c = 0 := fun i h1 h2 => g3 i h1 (by omega)
    exact .inl ⟨h0, step_miss h0⟩

def Bm (M : Mx) : Prop := ∀ i j, M i j < 256
theorem swp_b {M : Mx} (h : Bm M) (k r : Nat) : Bm (swp M k r) := fun i j => by unfold swp; split; exact h _ _; split; exact h _ _; exact h _ _
theorem scl_b {M : Mx} (h : Bm M) (k c : Nat) : Bm (scl M k c) := fun i j => by unfold scl; split; exact gm_lt _ _; exact h _ _
theorem swe_b {M : Mx} (h : Bm M) (k c : Nat) : Bm (swe M k c) := fun i j => by unfold swe; split; exact h _ _; exact xor_lt (h _ _) (gm_lt _ _)
theorem nxt_b {M : Mx} (h : Bm M) (k r c : Nat) : Bm (nxt M k r c) := swe_b (scl_b (swp_b h k r) k c) k c

/-- What the rows are like when the columns ahead of c are done, and L have rows of their own. -/
structure Ech (R c : Nat) (M : Mx) (L : List Nat) : Prop where
  len : L.length ≤ R
  lt : ∀ (i l : Nat), L[i]? = some l → l < c
  one : ∀ (i l : Nat), L[i]? = some l → M i l = 1
  zero : ∀ (i l k : Nat), L[i]? = some l → k < R → k ≠ i → M k l = 0
  rest : ∀ (k j : Nat), L.length ≤ k → k < R → j < c → M k j = 0
  byt : Bm M
  few : L.length ≤ c
  full : L.length = c → L = List.range c
  srt : ∀ (i i' l l' : Nat), i < i' → L[i]? = some l → L[i']? = some l' → l < l'
theorem Ech.nod {R c : Nat} {M : Mx} {L : List Nat} (h : Ech R c M L) {i i' l : Nat} (h1 : L[i]? = some l) (h2 : L[i']? = some l) : i = i' := by
  rcases Nat.lt_trichotomy i i' with hl | hl | hl
  · exact absurd (h.srt _ _ _ _ hl h1 h2) (by omega)
  · exact hl
  · exact absurd (h.srt _ _ _ _ hl h2 h1) (by omega)
theorem ech_start (R : Nat) {M : Mx} (h : Bm M) : Ech R 0 M [] :=
  ⟨by simp, fun i l h => by simp at h, fun i l h => by simp at h, fun i l k h => by simp at h, fun k j _ _ h => by omega, h, by simp, fun _ => rfl, fun i i' l l' _ h => by simp at h⟩
theorem app_at {L : List Nat} {c i l : Nat} (h : (L ++ [c])[i]? = some l) : L[i]? = some l ∨ (i = L.length ∧ l = c) := by
  rcases Nat.lt_trichotomy i L.length with hi | hi | hi
  · rw [List.getElem?_append_left hi] at h; exact .inl h
  · subst hi; simp at h; exact .inr ⟨rfl, h.symm⟩
  · rw [List.getElem?_eq_none (by simp; omega)] at h; cases h
theorem at_lt {L : List Nat} {i l : Nat} (h : L[i]? = some l) : i < L.length := (List.getElem?_eq_some_iff.1 h).1
theorem gm_inv' {a : Nat} (h : a < 256) (h0 : a ≠ 0) : gm (inv a) a = 1 := by rw [gm_comm]; exact gm_inv h h0
theorem xor_z (a : Nat) : a ^^^ 0 = a := Nat.xor_zero a

section
variable {M : Mx} {R c k r : Nat} {L : List Nat}
theorem nxt_own (M : Mx) (k r c j : Nat) : nxt M k r c k j = gm (inv (M r c)) (M r j) := by simp [nxt, swe, scl, swp]
theorem nxt_oth (M : Mx) {k i : Nat} (r c j : Nat) (h : i ≠ k) : nxt M k r c i j = swp M k r i j ^^^ gm (swp M k r i c) (gm (inv (M r c)) (M r j)) := by simp [nxt, swe, scl, swp, h]
theorem Ech.hit (h : Ech R c M L) (h1 : L.length ≤ r) (h2 : r < R) (h4 : M r c ≠ 0) : Ech R (c + 1) (nxt M L.length r c) (L ++ [c]) := by
  have hb := h.byt
  have hP : Bm (swp M L.length r) := swp_b hb _ _
  have hcol : ∀ l, M r l = 0 → ∀ i, i ≠ L.length → nxt M L.length r c i l = swp M L.length r i l := fun l hl i hi => by rw [nxt_oth M r c l hi, hl, gm_zero_right, gm_zero_right, xor_z]
  have hne : ∀ (i l : Nat), L[i]? = some l → i < L.length := fun i l hi => at_lt hi
  refine ⟨by simp; omega, fun i l hi => ?_, fun i l hi => ?_, fun i l k hi hk hki => ?_, fun k j hk hkR hj => ?_, nxt_b hb _ _ _, by simp; exact h.few, fun hf => ?_, fun i i' l l' hlt hi hi' => ?_⟩
  · rcases app_at hi with hi | ⟨_, rfl⟩
    · exact Nat.lt_succ_of_lt (h.lt i l hi)
    · omega
  · rcases app_at hi with hi | ⟨rfl, rfl⟩
    · have hil := hne i l hi
      rw [hcol l (h.zero i l r hi h2 (by omega)) i (by omega)]
      unfold swp
      rw [if_neg (by omega), if_neg (by omega)]
      exact h.one i l hi
    · rw [nxt_own]; exact gm_inv' (hb _ _) h4
  · rcases app_at hi with hi | ⟨rfl, rfl⟩
    · have hil := hne i l hi
      have hr0 := h.zero i l r hi h2 (by omega)
      by_cases e : k = L.length
      · subst e; rw [nxt_own, hr0, gm_zero_right]
      · rw [hcol l hr0 k e]
        unfold swp
        rw [if_neg e]
        split
        · exact h.zero i l _ hi (by omega) (by omega)
        · exact h.zero i l k hi hk hki
    · rw [nxt_oth M r l l hki, gm_inv' (hb _ _) h4, gm_one (hP _ _), Nat.xor_self]
  · simp only [List.length_append, List.length_cons, List.length_nil] at hk
    have hkn : k ≠ L.length := by omega
    by_cases e : j = c
    · subst e
      rw [nxt_oth M r j j hkn, gm_inv' (hb _ _) h4, gm_one (hP _ _), Nat.xor_self]
    · rw [hcol j (h.rest r j h1 h2 (by omega)) k hkn]
      unfold swp
      rw [if_neg hkn]
      split
      · exact h.rest _ j (Nat.le_refl _) (by omega) (by omega)
      · exact h.rest k j (by omega) hkR (by omega)
  · simp only [List.length_append, List.length_cons, List.length_nil] at hf
    rw [h.full (by omega), List.range_succ]
  · rcases app_at hi' with hi' | ⟨rfl, rfl⟩
    · rcases app_at hi with hi | ⟨rfl, rfl⟩
      · exact h.srt i i' l l' hlt hi hi'
      · have := at_lt hi'; simp only [List.length_append, List.length_cons, List.length_nil] at this; omega
    · rcases app_at hi with hi | ⟨rfl, rfl⟩
      · exact h.lt i l hi
      · omega
theorem Ech.miss (h : Ech R c M L) (h0 : ∀ i, L.length ≤ i → i < R → M i c = 0) : Ech R (c + 1) M L :=
  ⟨h.len, fun i l hi => Nat.lt_succ_of_lt (h.lt i l hi), h.one, h.zero, fun k j hk hkR hj => by
    by_cases e : j = c
    · subst e; exact h0 k hk hkR
    · exact h.rest k j hk hkR (by omega), h.byt, Nat.le_succ_of_le h.few, fun hf => by have := h.few; omega, h.srt⟩
end
theorem Ech.step {R c : Nat} {s : Mx × List Nat} (h : Ech R c s.1 s.2) : Ech R (c + 1) (step R c s).1 (step R c s).2 := by
  obtain ⟨M, L⟩ := s
  rcases step_or R c M L with ⟨h0, e⟩ | ⟨r, h1, h2, h4, h3, e⟩
  · rw [e]; exact h.miss h0
  · rw [e]; exact h.hit h1 h2 h4
theorem red_ech (R : Nat) {M : Mx} (h : Bm M) : ∀ c, Ech R c (red R M c).1 (red R M c).2
  | 0 => ech_start R h
  | c + 1 => (red_ech R h c).step

/-! Sums of bytes, and rows times bytes. -/
def xs : Nat → (Nat → Nat) → Nat
  | 0, _ => 0
  | n + 1, f => xs n f ^^^ f n
theorem xs_congr {f g : Nat → Nat} : ∀ n, (∀ j, j < n → f j = g j) → xs n f = xs n g
  | 0, _ => rfl
  | n + 1, h => by simp only [xs]; rw [xs_congr n (fun j hj => h j (by omega)), h n (by omega)]
theorem xs_zero : ∀ (n : Nat), xs n (fun _ => 0) = 0
  | 0 => rfl
  | n + 1 => by simp only [xs, xs_zero n]; rfl
theorem xs_z {f : Nat → Nat} (n : Nat) (h : ∀ j, j < n → f j = 0) : xs n f = 0 := (xs_congr n h).trans (xs_zero n)
theorem xs_lt {f : Nat → Nat} : ∀ n, (∀ j, j < n → f j < 256) → xs n f < 256
  | 0, _ => by simp [xs]
  | n + 1, h => by simp only [xs]; exact xor_lt (xs_lt n fun j hj => h j (by omega)) (h n (by omega))
theorem xs_xor (f g : Nat → Nat) : ∀ n, xs n (fun j => f j ^^^ g j) = xs n f ^^^ xs n g
  | 0 => by simp [xs]
  | n + 1 => by simp only [xs]; rw [xs_xor f g n, xor4]
theorem xs_gm {f : Nat → Nat} {a : Nat} (ha : a < 256) (hf : ∀ j, f j < 256) : ∀ n, xs n (fun j => gm a (f j)) = gm a (xs n f)
  | 0 => (gm_zero_right a).symm
  | n + 1 => by simp only [xs]; rw [xs_gm ha hf n, gm_xor_right ha (xs_lt n fun j _ => hf j) (hf n)]
theorem xs_single {f : Nat → Nat} {l : Nat} : ∀ n, l < n → (∀ j, j < n → j ≠ l → f j = 0) → xs n f = f l
  | 0, h, _ => by omega
  | n + 1, h, h0 => by
    simp only [xs]
    by_cases e : l = n
    · subst e; rw [xs_z l (fun j hj => h0 j (by omega) (by omega)), Nat.zero_xor]
    · rw [xs_single n (by omega) (fun j hj hne => h0 j (by omega) hne), h0 n (by omega) (by omega), Nat.xor_zero]
def dt (n : Nat) (a v : Nat → Nat) : Nat := xs n (fun j => gm (a j) (v j))
theorem dt_lt (n : Nat) (a v : Nat → Nat) : dt n a v < 256 := xs_lt n fun _ _ => gm_lt _ _
theorem dt_gm {a v : Nat → Nat} {b : Nat} (n : Nat) (hb : b < 256) (ha : ∀ j, a j < 256) (hv : ∀ j, v j < 256) : dt n (fun j => gm b (a j)) v = gm b (dt n a v) := by
  unfold dt
  rw [← xs_gm hb (fun j => gm_lt _ _)]
  exact xs_congr n fun j _ => gm_assoc hb (ha j) (hv j)
theorem dt_xor {a b v : Nat → Nat} (n : Nat) (ha : ∀ j, a j < 256) (hb : ∀ j, b j < 256) (hv : ∀ j, v j < 256) : dt n (fun j => a j ^^^ b j) v = dt n a v ^^^ dt n b v := by
  unfold dt
  rw [← xs_xor]
  exact xs_congr n fun j _ => gm_xor_left (ha j) (hb j) (hv j)

/-- v makes all rows 0. -/
def Null (R n : Nat) (M : Mx) (v : Nat → Nat) : Prop := ∀ i, i < R → dt n (M i) v = 0
theorem swp_null {R n k r : Nat} {M : Mx} {v : Nat → Nat} (hk : k < R) (hr : r < R) : Null R n (swp M k r) v ↔ Null R n M v := by
  constructor
  · intro h i hi
    by_cases e : i = k
    · have := h r hr
      unfold swp at this
      subst e
      by_cases e2 : r = i
      · rw [if_pos e2] at this; rw [e2] at this; exact this
      · rw [if_neg e2, if_pos rfl] at this; exact this
    · by_cases e2 : i = r
      · have := h k hk
        unfold swp at this
        rw [if_pos rfl] at this
        rw [e2]; exact this
      · have := h i hi
        unfold swp at this
        rw [if_neg e, if_neg e2] at this
        exact this
  · intro h i hi
    unfold swp
    split
    · exact h r hr
    · split
      · exact h k hk
      · exact h i hi
theorem scl_null {R n k c : Nat} {M : Mx} {v : Nat → Nat} (hM : Bm M) (hv : ∀ j, v j < 256) (h0 : M k c ≠ 0) : Null R n (scl M k c) v ↔ Null R n M v := by
  have hk : ∀ i, dt n (scl M k c i) v = if i = k then gm (inv (M k c)) (dt n (M k) v) else dt n (M i) v := fun i => by
    by_cases e : i = k
    · subst e
      rw [if_pos rfl, ← dt_gm n (inv_lt _) (hM i) hv]
      unfold scl
      simp
    · rw [if_neg e]
      unfold scl
      simp [e]
  constructor
  · intro h i hi
    have := h i hi
    rw [hk] at this
    by_cases e : i = k
    · rw [if_pos e] at this
      rcases gm_eq_zero.1 this with h1 | h1
      · exact absurd h1 (inv_ne h0)
      · rw [e]; exact h1
    · rw [if_neg e] at this; exact this
  · intro h i hi
    rw [hk]
    split
    · rename_i e
      rw [← e, h i hi, gm_zero_right]
    · exact h i hi
theorem swe_null {R n k c : Nat} {M : Mx} {v : Nat → Nat} (hM : Bm M) (hv : ∀ j, v j < 256) (hkR : k < R) : Null R n (swe M k c) v ↔ Null R n M v := by
  have hk : ∀ i, dt n (swe M k c i) v = if i = k then dt n (M k) v else dt n (M i) v ^^^ gm (M i c) (dt n (M k) v) := fun i => by
    by_cases e : i = k
    · subst e
      rw [if_pos rfl]
      unfold swe
      simp
    · rw [if_neg e, ← dt_gm n (hM i c) (hM k) hv, ← dt_xor n (hM i) (fun j => gm_lt _ _) hv]
      unfold swe
      simp [e]
  constructor
  · intro h i hi
    have h1 := h k hkR
    rw [hk, if_pos rfl] at h1
    have h2 := h i hi
    rw [hk] at h2
    by_cases e : i = k
    · rw [e]; exact h1
    · rw [if_neg e, h1, gm_zero_right, Nat.xor_zero] at h2; exact h2
  · intro h i hi
    rw [hk, h k hkR]
    split
    · rfl
    · rw [h i hi, gm_zero_right]; rfl
theorem nxt_null {R n k r c : Nat} {M : Mx} {v : Nat → Nat} (hM : Bm M) (hv : ∀ j, v j < 256) (hk : k < R) (hr : r < R) (h0 : M r c ≠ 0) : Null R n (nxt M k r c) v ↔ Null R n M v := by
  have h1 := swp_b hM k r
  unfold nxt
  rw [swe_null (scl_b h1 k c) hv hk, scl_null h1 hv (by unfold swp; rw [if_pos rfl]; exact h0), swp_null hk hr]
theorem step_null {R n c : Nat} {s : Mx × List Nat} {v : Nat → Nat} (hM : Bm s.1) (hv : ∀ j, v j < 256) : Null R n (step R c s).1 v ↔ Null R n s.1 v := by
  obtain ⟨M, L⟩ := s
  rcases step_or R c M L with ⟨h0, e⟩ | ⟨r, h1, h2, h4, h3, e⟩
  · rw [e]
  · rw [e]; exact nxt_null hM hv (by omega) h2 h4
theorem red_null {R n : Nat} {M : Mx} {v : Nat → Nat} (hM : Bm M) (hv : ∀ j, v j < 256) : ∀ c, Null R n (red R M c).1 v ↔ Null R n M v
  | 0 => Iff.rfl
  | c + 1 => (step_null (red_ech R hM c).byt hv).trans (red_null hM hv c)

/-! What stands in further columns does not matter. -/
def Ag (w : Nat) (M N : Mx) : Prop := ∀ i j, j < w → M i j = N i j
theorem nxt_ag {w k r c : Nat} {M N : Mx} (h : Ag w M N) (hc : c < w) : Ag w (nxt M k r c) (nxt N k r c) := by
  have h1 : Ag w (swp M k r) (swp N k r) := fun i j hj => by unfold swp; split; exact h _ _ hj; split; exact h _ _ hj; exact h _ _ hj
  have h2 : Ag w (scl (swp M k r) k c) (scl (swp N k r) k c) := fun i j hj => by unfold scl; rw [h1 k c hc, h1 k j hj, h1 i j hj]
  intro i j hj
  unfold nxt swe
  rw [h2 i j hj, h2 i c hc, h2 k j hj]
theorem red_ag (R : Nat) {w : Nat} {M N : Mx} (h : Ag w M N) : ∀ c, c ≤ w → (red R M c).2 = (red R N c).2 ∧ Ag w (red R M c).1 (red R N c).1
  | 0, _ => ⟨rfl, h⟩
  | c + 1, hc => by
    obtain ⟨h1, h2⟩ := red_ag R h c (by omega)
    have hf := fnd_congr (fun i => h2 i c (by omega)) (R - (red R N c).2.length) (red R N c).2.length
    simp only [red, step, h1, hf]
    split
    · exact ⟨rfl, nxt_ag h2 (by omega)⟩
    · exact ⟨h1, h2⟩
theorem nxt_zc {M : Mx} {k r c l : Nat} (h : ∀ i, M i l = 0) (i : Nat) : nxt M k r c i l = 0 := by
  by_cases e : i = k
  · subst e; rw [nxt_own, h, gm_zero_right]
  · rw [nxt_oth M r c l e, h, gm_zero_right, gm_zero_right, xor_z]
    unfold swp
    split
    · exact h _
    · split <;> exact h _
theorem red_zc (R : Nat) {M : Mx} {l : Nat} (h : ∀ i, M i l = 0) : ∀ c i, (red R M c).1 i l = 0
  | 0, i => h i
  | c + 1, i => by
    simp only [red]
    rcases step_or R c (red R M c).1 (red R M c).2 with ⟨_, e⟩ | ⟨r, _, _, _, _, e⟩
    · rw [show step R c (red R M c) = ((red R M c).1, (red R M c).2) from e]; exact red_zc R h c i
    · rw [show step R c (red R M c) = _ from e]; exact nxt_zc (red_zc R h c) i

/-- The rows, and a byte behind each. -/
def aug (n : Nat) (M : Mx) (b : Nat → Nat) : Mx := fun i j => if j < n then M i j else b i
theorem aug_b {n : Nat} {M : Mx} {b : Nat → Nat} (hM : Bm M) (hb : ∀ i, b i < 256) : Bm (aug n M b) := fun i j => by unfold aug; split; exact hM _ _; exact hb _
theorem aug_own (R n : Nat) (M : Mx) (b : Nat → Nat) : (red R (aug n M b) n).2 = (red R M n).2 :=
  (red_ag R (w := n) (M := aug n M b) (N := M) (fun i j hj => by unfold aug; rw [if_pos hj]) n (Nat.le_refl _)).1
theorem aug_or (R n : Nat) (M : Mx) (b : Nat → Nat) : (red R (aug n M b) (n + 1)).2 = (red R M n).2 ∨ (red R (aug n M b) (n + 1)).2 = (red R M n).2 ++ [n] := by
  rw [← aug_own R n M b]
  simp only [red]
  rcases step_or R n (red R (aug n M b) n).1 (red R (aug n M b) n).2 with ⟨_, e⟩ | ⟨r, _, _, _, _, e⟩
  · rw [show step R n (red R (aug n M b) n) = ((red R (aug n M b) n).1, (red R (aug n M b) n).2) from e]; exact .inl rfl
  · rw [show step R n (red R (aug n M b) n) = _ from e]; exact .inr rfl
theorem own_lt {R n : Nat} {M : Mx} (hM : Bm M) : n ∉ (red R M n).2 := fun h => by
  obtain ⟨i, hi⟩ := List.getElem?_of_mem h
  exact absurd ((red_ech R hM n).lt i n hi) (by omega)
/-- There is a solution just if the last column has no row of its own. -/
theorem aug_in {R n : Nat} {M : Mx} (hM : Bm M) (b : Nat → Nat) : n ∈ (red R (aug n M b) (n + 1)).2 ↔ (red R M n).2.length < (red R (aug n M b) (n + 1)).2.length := by
  rcases aug_or R n M b with e | e
  · rw [e]; exact ⟨fun h => absurd h (own_lt hM), fun h => by omega⟩
  · rw [e]; simp
theorem aug_out {R n : Nat} {M : Mx} {b : Nat → Nat} (h : n ∉ (red R (aug n M b) (n + 1)).2) : (red R (aug n M b) (n + 1)).2 = (red R M n).2 := by
  rcases aug_or R n M b with e | e
  · exact e
  · rw [e] at h; exact absurd (by simp) h
theorem aug_rank {R n : Nat} {M : Mx} : (red R (aug n M (fun _ => 0)) (n + 1)).2 = (red R M n).2 := by
  have hz := red_zc R (M := aug n M (fun _ => 0)) (l := n) (fun i => by unfold aug; rw [if_neg (by omega)]) n
  rw [← aug_own R n M (fun _ => 0)]
  simp only [red]
  have e := step_miss (R := R) (c := n) (M := (red R (aug n M (fun _ => 0)) n).1) (L := (red R (aug n M (fun _ => 0)) n).2) (fun i _ _ => hz i)
  rw [show step R n (red R (aug n M (fun _ => 0)) n) = ((red R (aug n M (fun _ => 0)) n).1, (red R (aug n M (fun _ => 0)) n).2) from e]

/-- What is read off, of the first k rows: the last byte of row i stands for its column; all others are 0. -/
def IsX (L : List Nat) (T : Mx) (n k : Nat) (X : Nat → Nat) : Prop :=
  (∀ (i l : Nat), i < k → L[i]? = some l → X l = T i n) ∧ (∀ (c : Nat), (∀ (i : Nat), i < k → L[i]? ≠ some c) → X c = 0)
theorem isx_start (L : List Nat) (T : Mx) (n : Nat) : IsX L T n 0 (fun _ => 0) := ⟨fun i l h => by omega, fun _ _ => rfl⟩
theorem IsX.put {L : List Nat} {T : Mx} {n k l : Nat} {X : Nat → Nat} (h : IsX L T n k X) (hn : ∀ (i : Nat), L[i]? = some l → i = k) (hl : L[k]? = some l) : IsX L T n (k + 1) (fun j => if j = l then T k n else X j) := by
  refine ⟨fun i l' hi hl' => ?_, fun c hc => ?_⟩
  · by_cases e : l' = l
    · subst e
      simp only [if_true]
      rw [hn i hl']
    · simp only [if_neg e]
      by_cases ek : i = k
      · subst ek; rw [hl] at hl'; injection hl' with e2; exact absurd e2.symm e
      · exact h.1 i l' (by omega) hl'
  · have hcl : c ≠ l := fun e => hc k (by omega) (by rw [e]; exact hl)
    simp only [if_neg hcl]
    exact h.2 c fun i hi => hc i (by omega)
theorem IsX.lt {L : List Nat} {T : Mx} {n k : Nat} {X : Nat → Nat} (h : IsX L T n k X) (hT : Bm T) (j : Nat) : X j < 256 := by
  by_cases e : ∃ i : Nat, i < k ∧ L[i]? = some j
  · obtain ⟨i, hi, hl⟩ := e
    rw [h.1 i j hi hl]; exact hT _ _
  · rw [h.2 j fun i hi he => e ⟨i, hi, he⟩]; omega

/-- Bytes, and 1 behind them. -/
def vone (n : Nat) (X : Nat → Nat) : Nat → Nat := fun j => if j < n then X j else 1
theorem vone_lt {n : Nat} {X : Nat → Nat} (h : ∀ j, X j < 256) (j : Nat) : vone n X j < 256 := by unfold vone; split; exact h j; omega
theorem dt_vone {n : Nat} {a X : Nat → Nat} (ha : a n < 256) : dt (n + 1) a (vone n X) = dt n a X ^^^ a n := by
  have e1 : xs n (fun j => gm (a j) (vone n X j)) = xs n (fun j => gm (a j) (X j)) := xs_congr n fun j hj => by unfold vone; rw [if_pos hj]
  have e2 : vone n X n = 1 := by unfold vone; rw [if_neg (by omega)]
  unfold dt
  simp only [xs]
  rw [e1, e2, gm_one ha]
theorem dt_aug {n i : Nat} {M : Mx} {b X : Nat → Nat} (hb : b i < 256) : dt (n + 1) (aug n M b i) (vone n X) = dt n (M i) X ^^^ b i := by
  have e1 : aug n M b i n = b i := by unfold aug; rw [if_neg (by omega)]
  rw [dt_vone (by rw [e1]; exact hb), e1]
  congr 1
  exact xs_congr n fun j hj => by unfold aug; rw [if_pos hj]
theorem xor_eq {a b : Nat} : a ^^^ b = 0 ↔ a = b := by
  constructor
  · intro h
    have : a ^^^ b ^^^ b = 0 ^^^ b := by rw [h]
    rwa [Nat.xor_assoc, Nat.xor_self, Nat.xor_zero, Nat.zero_xor] at this
  · intro h; rw [h, Nat.xor_self]
theorem null_aug {R n : Nat} {M : Mx} {b X : Nat → Nat} (hb : ∀ i, b i < 256) : Null R (n + 1) (aug n M b) (vone n X) ↔ ∀ i, i < R → dt n (M i) X = b i := by
  unfold Null
  constructor
  · intro h i hi
    have := h i hi
    rw [dt_aug (hb i)] at this
    exact xor_eq.1 this
  · intro h i hi
    rw [dt_aug (hb i)]
    exact xor_eq.2 (h i hi)

section
variable {R n : Nat} {M : Mx} {b X v : Nat → Nat}
/-- What is read off solves the equations. -/
theorem solves (hM : Bm M) (hb : ∀ i, b i < 256) (hn : n ∉ (red R (aug n M b) (n + 1)).2)
    (hX : IsX (red R (aug n M b) (n + 1)).2 (red R (aug n M b) (n + 1)).1 n (red R (aug n M b) (n + 1)).2.length X) : ∀ i, i < R → dt n (M i) X = b i := by
  have hA := aug_b (n := n) hM hb
  have hE := red_ech R hA (n + 1)
  have hXb := hX.lt hE.byt
  rw [← null_aug hb, ← red_null hA (vone_lt hXb) (n + 1)]
  revert hE hX hn
  generalize (red R (aug n M b) (n + 1)).1 = T
  generalize (red R (aug n M b) (n + 1)).2 = L
  intro hn hX hE i hi
  rw [dt_vone (hE.byt _ _)]
  refine xor_eq.2 ?_
  by_cases hl : i < L.length
  · obtain ⟨l, hL⟩ : ∃ l, L[i]? = some l := ⟨_, List.getElem?_eq_getElem hl⟩
    have hln : l < n := by
      have h1 := hE.lt i l hL
      have h2 : l ≠ n := fun e => hn (by rw [← e]; exact List.mem_of_getElem? hL)
      omega
    unfold dt
    rw [xs_single (l := l) n hln, hE.one i l hL, gm_one_left (hXb l), hX.1 i l hl hL]
    intro j hj hne
    by_cases e : ∃ k : Nat, k < L.length ∧ L[k]? = some j
    · obtain ⟨k, hk, hL2⟩ := e
      have hki : i ≠ k := fun e => hne (by subst e; rw [hL] at hL2; injection hL2 with e; exact e.symm)
      rw [hE.zero k j i hL2 hi hki, gm_zero_left]
    · rw [hX.2 j fun k hk he => e ⟨k, hk, he⟩, gm_zero_right]
  · have h0 := hE.rest i n (by omega) hi (by omega)
    rw [h0]
    unfold dt
    exact xs_z n fun j hj => by rw [hE.rest i j (by omega) hi (by omega), gm_zero_left]
/-- Where there is a solution the last column has no row of its own. -/
theorem back (hM : Bm M) (hb : ∀ i, b i < 256) (hv : ∀ j, v j < 256) (h : ∀ i, i < R → dt n (M i) v = b i) : n ∉ (red R (aug n M b) (n + 1)).2 := by
  have hA := aug_b (n := n) hM hb
  have hE := red_ech R hA n
  have hN := (red_null (R := R) hA (vone_lt (n := n) hv) n).2 ((null_aug hb).2 h)
  have ho := own_lt (R := R) (n := n) hM
  rw [← aug_own R n M b] at ho
  simp only [red]
  rcases step_or R n (red R (aug n M b) n).1 (red R (aug n M b) n).2 with ⟨_, e⟩ | ⟨r, h1, h2, h4, _, _⟩
  · rw [show step R n (red R (aug n M b) n) = ((red R (aug n M b) n).1, (red R (aug n M b) n).2) from e]; exact ho
  · have h5 := hN r h2
    rw [dt_vone (hE.byt _ _)] at h5
    have h6 : dt n ((red R (aug n M b) n).1 r) v = 0 := xs_z n fun j hj => by rw [hE.rest r j h1 h2 hj, gm_zero_left]
    rw [h6, Nat.zero_xor] at h5
    exact absurd h5 h4
/-- Where all columns have rows of their own there is no other solution. -/
theorem uniq (hM : Bm M) (hb : ∀ i, b i < 256) (hv : ∀ j, v j < 256) (hr : n ≤ (red R M n).2.length) (hn : n ∉ (red R (aug n M b) (n + 1)).2)
    (hX : IsX (red R (aug n M b) (n + 1)).2 (red R (aug n M b) (n + 1)).1 n (red R (aug n M b) (n + 1)).2.length X) (h : ∀ i, i < R → dt n (M i) v = b i) : ∀ j, j < n → v j = X j := by
  have hA := aug_b (n := n) hM hb
  have hE := red_ech R hA (n + 1)
  have hE0 := red_ech R hM n
  have hN := (red_null (R := R) hA (vone_lt (n := n) hv) (n + 1)).2 ((null_aug hb).2 h)
  have hL : (red R (aug n M b) (n + 1)).2 = List.range n := by rw [aug_out hn]; exact hE0.full (by have := hE0.few; omega)
  revert hE hX hN hL
  generalize (red R (aug n M b) (n + 1)).1 = T
  generalize (red R (aug n M b) (n + 1)).2 = L
  intro hX hE hN hL j hj
  subst hL
  have hat : ∀ k, k < n → (List.range n)[k]? = some k := fun k hk => by simp [hk]
  have hjR : j < R := by have := hE.len; simp at this; omega
  have h1 := hN j hjR
  rw [dt_vone (hE.byt _ _)] at h1
  have h2 := xor_eq.1 h1
  unfold dt at h2
  rw [xs_single (l := j) n hj, hE.one j j (hat j hj), gm_one_left (hv j)] at h2
  · rw [h2, hX.1 j j (by simp; exact hj) (hat j hj)]
  · intro k hk hne
    rw [hE.zero k k j (hat k hk) hjR (fun e => hne e.symm), gm_zero_left]
/-- What is read off is 0 but in columns that have a row of their own. -/
theorem free (hn : n ∉ (red R (aug n M b) (n + 1)).2) (hX : IsX (red R (aug n M b) (n + 1)).2 (red R (aug n M b) (n + 1)).1 n (red R (aug n M b) (n + 1)).2.length X) (j : Nat) (hj : j ∉ (red R M n).2) : X j = 0 :=
  hX.2 j fun i _ he => hj (by rw [← aug_out hn]; exact List.mem_of_getElem? he)
end
end Sv
end
section
/- Rows of bytes in memory: those that are read, and a table of the call's own that is turned. -/
namespace Gw
open Go Go.RowKit Go.Shelf

/-- Blocks stand, but those from lo on that are below hi. -/
structure Kt (lo hi : Nat) (w w' : World) : Prop where
  os : w'.os = w.os
  tape : w'.tape = w.tape
  output : w'.output = w.output
  size : w.heap.size ≤ w'.heap.size
  block : ∀ k, k < w.heap.size → ¬ (lo ≤ k ∧ k < hi) → w'.heap[k]? = w.heap[k]?
theorem Kt.refl (lo hi : Nat) (w : World) : Kt lo hi w w := ⟨rfl, rfl, rfl, Nat.le_refl _, fun _ _ _ => rfl⟩
theorem Kt.trans {lo hi : Nat} {a b c : World} (h : Kt lo hi a b) (k : Kt lo hi b c) : Kt lo hi a c :=
  ⟨k.os.trans h.os, k.tape.trans h.tape, k.output.trans h.output, Nat.le_trans h.size k.size, fun i h1 h2 => (k.block i (Nat.lt_of_lt_of_le h1 h.size) h2).trans (h.block i h1 h2)⟩
theorem Kt.ofBelow {lo hi : Nat} {w w' : World} (h : Below w.heap.size w w') : Kt lo hi w w' := ⟨h.os, h.tape, h.output, h.size, fun k hk _ => h.block k hk⟩
theorem Kt.drewN {lo hi : Nat} {a w : World} (h : Kt lo hi a w) (n : Nat) : Kt lo hi a (w.drewN n) := ⟨h.os, h.tape, h.output, h.size, h.block⟩
theorem Kt.drew {lo hi : Nat} {a w : World} (h : Kt lo hi a w) : Kt lo hi a w.drew := ⟨h.os, h.tape, h.output, h.size, h.block⟩
theorem Kt.alloc {lo hi : Nat} {a w : World} (h : Kt lo hi a w) (o : Obj) : Kt lo hi a (w.alloc o) := h.trans (Kt.ofBelow ((Below.refl _ _).alloc (Nat.le_refl _) o))
theorem Kt.set {lo hi : Nat} {a w : World} (h : Kt lo hi a w) {p : Addr} (hp : lo ≤ p.block ∧ p.block < hi) (u : Value) : Kt lo hi a (w.setCell p u) :=
  h.trans ⟨rfl, rfl, rfl, by simp [World.setCell], fun k _ hk => Below.heap_setCell _ _ _ _ (fun e => hk (by rw [e]; exact hp))⟩
/-- A store into a block that was not there. -/
theorem Kt.setNew {lo hi : Nat} {a w : World} (h : Kt lo hi a w) {p : Addr} (hp : a.heap.size ≤ p.block) (u : Value) : Kt lo hi a (w.setCell p u) :=
  ⟨h.os, h.tape, h.output, by simp [World.setCell]; exact h.size, fun k h1 hk => (Below.heap_setCell _ _ _ _ (by omega)).trans (h.block k h1 hk)⟩
theorem Kt.below {lo hi : Nat} {w w' : World} (h : Kt lo hi w w') (hl : lo ≤ w.heap.size) : Below lo w w' := ⟨h.os, h.tape, h.output, h.size, fun k hk => h.block k (by omega) (by omega)⟩
theorem Kt.cell {lo hi : Nat} {w w' : World} (h : Kt lo hi w w') {b o : Nat} {v : Value} (hc : w.cell? ⟨b, o, none⟩ = some v) (hb : ¬ (lo ≤ b ∧ b < hi)) : w'.cell? ⟨b, o, none⟩ = some v :=
  (World.cell?_of_block (w := w) (a := ⟨b, o, none⟩) (h.block b (cell_lt hc) hb)).trans hc
theorem Row.kt {lo hi b n : Nat} {w w' : World} {f : Nat → Value} (hr : Row w b n f) (h : Kt lo hi w w') (hb : ¬ (lo ≤ b ∧ b < hi)) : Row w' b n f := fun o ho =>
  ⟨h.cell (hr o ho).1 hb, (World.frozen?_of_block (w := w) (a := ⟨b, o, none⟩) (h.block b (cell_lt (hr o ho).1) hb)).trans (hr o ho).2⟩
theorem Row.other {b n g k : Nat} {w : World} {f : Nat → Value} (hr : Row w b n f) (hb : b ≠ g) (v : Value) : Row (w.setCell ⟨g, k, none⟩ v) b n f := fun o ho => by
  refine ⟨?_, by rw [World.frozen?_setCell]; exact (hr o ho).2⟩
  rw [World.cell?_setCell_other _ _ _ _ (fun h => hb (by cases h; rfl))]
  exact (hr o ho).1
theorem Own.kt {lo hi : Nat} {w w' : World} {base : Nat} {e : TypeId} {A : Option Addr} {c : Nat} {l : List Nat} (h : Own w base e A c l) (hk : Kt lo hi w w') (hb : hi ≤ base) : Own w' base e A c l := by
  refine ⟨⟨h.1.1, ?_⟩, h.2⟩
  rcases h.1.2 with h0 | ⟨g, cap, cur, hv, hg, hgb, h0⟩
  · exact .inl h0
  · exact .inr ⟨g, cap, cur, hv, hg, (hk.block g (Array.getElem?_eq_some_iff.1 hgb).1 (by omega)).trans hgb, h0⟩

/-- Rows that are read: row i is l i, at A' i. -/
structure MIn (W : World) (B : Nat) (A : Option Addr) (c R : Nat) (A' : Nat → Option Addr) (c' : Nat → Nat) (l : Nat → List Nat) : Prop where
  rd : ∀ i, i < R → ∃ b off, A = some ⟨b, off, none⟩ ∧ b < B ∧ W.cell? ⟨b, off + i, none⟩ = some (.slice (A' i) (l i).length (c' i)) ∧ In W B (A' i) (c' i) (l i)
  cap : R ≤ c
  none_ : A = none → c = 0
section
variable {W W' : World} {B c R : Nat} {A : Option Addr} {A' : Nat → Option Addr} {c' : Nat → Nat} {l : Nat → List Nat}
theorem MIn.below (h : MIn W B A c R A' c' l) (hb : Below B W W') : MIn W' B A c R A' c' l :=
  ⟨fun i hi => by
    obtain ⟨b, off, h1, h2, h3, h4⟩ := h.rd i hi
    exact ⟨b, off, h1, h2, (hb.cell (p := ⟨b, off + i, none⟩) h2).trans h3, h4.below hb⟩, h.cap, h.none_⟩
theorem MIn.more {B' : Nat} (h : MIn W B A c R A' c' l) (hB : B ≤ B') : MIn W B' A c R A' c' l :=
  ⟨fun i hi => by
    obtain ⟨b, off, h1, h2, h3, h4⟩ := h.rd i hi
    exact ⟨b, off, h1, by omega, h3, h4.more hB⟩, h.cap, h.none_⟩
theorem MIn.drewN (h : MIn W B A c R A' c' l) (n : Nat) : MIn (W.drewN n) B A c R A' c' l := h.below (Below.drewN (Below.refl _ _) n)
theorem MIn.row (h : MIn W B A c R A' c' l) {i : Nat} (hi : i < R) : In W B (A' i) (c' i) (l i) := by
  obtain ⟨b, off, h1, h2, h3, h4⟩ := h.rd i hi
  exact h4
theorem MIn.bb (h : MIn W B A c R A' c' l) {i : Nat} (hi : i < R) : Pol.BB (l i) := (h.row hi).bb
/-- Row i, and byte j of it. -/
theorem MIn.at_ (h : MIn W B A c R A' c' l) {i j : Nat} (hi : i < R) (hj : j < (l i).length) :
    ∃ b off b' off' c0, A = some ⟨b, off, none⟩ ∧ W.cell? ⟨b, off + i, none⟩ = some (.slice (some ⟨b', off', none⟩) (l i).length c0) ∧ W.cell? ⟨b', off' + j, none⟩ = some (.int .u8 (Pol.co (l i) j : Int)) ∧ Pol.co (l i) j < 256 := by
  obtain ⟨b, off, h1, h2, h3, h4⟩ := h.rd i hi
  obtain ⟨x, b', off', hx, hx2, ha, _, hc⟩ := h4.sl.at_ hj
  rw [ha] at h3
  rw [co_of' hx]
  exact ⟨b, off, b', off', _, h1, h3, hc, hx2⟩
end

/-- A table of the call's own: row i, n bytes M i, lies in block bs i; the rows' slices lie in block g. -/
structure Tab (W : World) (lo hi g : Nat) (bs cp : Nat → Nat) (M : Sv.Mx) (R n : Nat) : Prop where
  out : Row W g R (fun i => .slice (some ⟨bs i, 0, none⟩) n (cp i))
  inn : ∀ i, i < R → Row W (bs i) n (fun j => .int .u8 (M i j : Int))
  inj : ∀ i j, i < R → j < R → bs i = bs j → i = j
  ne : ∀ i, i < R → bs i ≠ g
  glo : lo ≤ g ∧ g < hi
  blo : ∀ i, i < R → lo ≤ bs i ∧ bs i < hi
  cap : ∀ i, i < R → n ≤ cp i
  his : hi ≤ W.heap.size
section
variable {W W' : World} {lo hi g R n : Nat} {bs cp : Nat → Nat} {M N : Sv.Mx}
theorem Tab.below {B : Nat} (h : Tab W lo hi g bs cp M R n) (hb : Below B W W') (hB : hi ≤ B) : Tab W' lo hi g bs cp M R n :=
  ⟨h.out.below hb (by have := h.glo; omega), fun i hi' => (h.inn i hi').below hb (by have := h.blo i hi'; omega), h.inj, h.ne, h.glo, h.blo, h.cap, Nat.le_trans h.his hb.size⟩
theorem Tab.drewN (h : Tab W lo hi g bs cp M R n) (k : Nat) : Tab (W.drewN k) lo hi g bs cp M R n := h.below (Below.drewN (Below.refl _ _) k) h.his
theorem Tab.alloc (h : Tab W lo hi g bs cp M R n) (o : Obj) : Tab (W.alloc o) lo hi g bs cp M R n := h.below ((Below.refl _ _).alloc (Nat.le_refl _) o) h.his
theorem Tab.setOld {p : Addr} (h : Tab W lo hi g bs cp M R n) (hp : hi ≤ p.block) (u : Value) : Tab (W.setCell p u) lo hi g bs cp M R n := h.below ((Below.refl hi _).setCell hp u) (Nat.le_refl _)
theorem Tab.congr (h : Tab W lo hi g bs cp M R n) (e : ∀ i j, i < R → j < n → M i j = N i j) : Tab W lo hi g bs cp N R n :=
  ⟨h.out, fun i hi => (h.inn i hi).congr fun j hj => by rw [e i j hi hj], h.inj, h.ne, h.glo, h.blo, h.cap, h.his⟩
theorem Tab.put (h : Tab W lo hi g bs cp M R n) {i j : Nat} (hi' : i < R) (hj : j < n) (y : Nat) :
    Tab (W.setCell ⟨bs i, j, none⟩ (.int .u8 (y : Int))) lo hi g bs cp (fun i' j' => if i' = i ∧ j' = j then y else M i' j') R n := by
  refine ⟨h.out.other (fun e => h.ne i hi' e.symm) _, fun i' hi2 => ?_, h.inj, h.ne, h.glo, h.blo, h.cap, by simp [World.setCell]; exact h.his⟩
  by_cases e : i' = i
  · subst e
    refine ((h.inn i' hi2).set hj _).congr fun o ho => ?_
    by_cases e2 : o = j
    · simp [e2]
    · simp [e2]
  · refine ((h.inn i' hi2).other (fun e2 => e (h.inj _ _ hi2 hi' e2)) _).congr fun o ho => ?_
    simp [e]
/-- Which row stands where behind a swap. -/
def sw (k r : Nat) (f : Nat → Nat) : Nat → Nat := fun i => if i = k then f r else if i = r then f k else f i
theorem Tab.swap (h : Tab W lo hi g bs cp M R n) {k r : Nat} (hk : k < R) (hr : r < R) :
    Tab ((W.setCell ⟨g, k, none⟩ (.slice (some ⟨bs r, 0, none⟩) n (cp r))).setCell ⟨g, r, none⟩ (.slice (some ⟨bs k, 0, none⟩) n (cp k))) lo hi g (sw k r bs) (sw k r cp) (Sv.swp M k r) R n := by
  have hne : ∀ i, i < R → sw k r bs i ≠ g := fun i hi => by unfold sw; split; exact h.ne _ hr; split; exact h.ne _ hk; exact h.ne _ hi
  refine ⟨((h.out.set hk _).set hr _).congr fun i hi => ?_, fun i hi => ?_, fun i j hi hj e => ?_, hne, h.glo, fun i hi => ?_, fun i hi => ?_, by simp [World.setCell]; exact h.his⟩
  · unfold sw
    by_cases e1 : i = r
    · subst e1
      by_cases e2 : i = k
      · subst e2; simp
      · simp [e2]
    · by_cases e2 : i = k
      · subst e2; simp [e1]
      · simp [e1, e2]
  · refine Row.other (Row.other ?_ (hne i hi) _) (hne i hi) _
    unfold sw Sv.swp
    by_cases e2 : i = k
    · subst e2; simp only [if_true]; exact h.inn r hr
    · by_cases e1 : i = r
      · subst e1; simp only [if_neg e2, if_true]; exact h.inn k hk
      · simp only [if_neg e2, if_neg e1]; exact h.inn i hi
  · unfold sw at e
    by_cases i1 : i = k
    · by_cases j1 : j = k
      · omega
      · by_cases j2 : j = r
        · simp only [if_pos i1, if_neg j1, if_pos j2] at e; have := h.inj _ _ hr hk e; omega
        · simp only [if_pos i1, if_neg j1, if_neg j2] at e; have := h.inj _ _ hr hj e; omega
    · by_cases i2 : i = r
      · by_cases j1 : j = k
        · simp only [if_neg i1, if_pos i2, if_pos j1] at e; have := h.inj _ _ hk hr e; omega
        · by_cases j2 : j = r
          · omega
          · simp only [if_neg i1, if_pos i2, if_neg j1, if_neg j2] at e; have := h.inj _ _ hk hj e; omega
      · by_cases j1 : j = k
        · simp only [if_neg i1, if_neg i2, if_pos j1] at e; have := h.inj _ _ hi hr e; omega
        · by_cases j2 : j = r
          · simp only [if_neg i1, if_neg i2, if_neg j1, if_pos j2] at e; have := h.inj _ _ hi hk e; omega
          · simp only [if_neg i1, if_neg i2, if_neg j1, if_neg j2] at e; exact h.inj _ _ hi hj e
  · unfold sw; split; exact h.blo _ hr; split; exact h.blo _ hk; exact h.blo _ hi
  · unfold sw; split; exact h.cap _ hr; split; exact h.cap _ hk; exact h.cap _ hi
end
end Gw
end
section
/- What the definition's own Secrets, Factor (package shamrockref10) do. -/
namespace Go.Proofs.Ytaknffdokkfmgaa
open Go.RowKit Go.Shelf Gw Pol
/-- The points of secrets. -/
def secL (n k : Nat) : List Nat := (List.range k).map fun i => n + 1 + i
theorem secL_len (n k : Nat) : (secL n k).length = k := by simp [secL]
theorem secL_succ (n k : Nat) : secL n (k + 1) = secL n k ++ [n + 1 + k] := by simp [secL, List.range_succ]
theorem secL_bb {n k : Nat} (h : n + k ≤ 255) : BB (secL n k) := fun x hx => by
  obtain ⟨i, hi, rfl⟩ := List.mem_map.1 hx
  have := List.mem_range.1 hi
  omega
def SecRel (w : World) (n k : Nat) (v i : Value) (wr : World) : Prop :=
  ∃ (q c : Nat) (A : Option Addr), q ≤ k ∧ v = .slice A q c ∧ i = .int .i64 (q : Int) ∧ Gw.Own wr (w.heap.size + 1) 5 A c (secL n q) ∧ Below w.heap.size w wr ∧ w.heap.size + 1 ≤ wr.heap.size ∧
    wr.cell? ⟨w.heap.size, 0, none⟩ = some (.int .i64 (n : Int)) ∧ wr.cell? ⟨w.heap.size, 2, none⟩ = some (.int .i64 (k : Int))
set_option maxRecDepth 100000 in
set_option maxHeartbeats 1000000 in
theorem rsec_any (n k : Nat) (T E R : Int) (h : n + k ≤ 255) (w : World) :
    Calls Try.prog 17 #[pv n T k E R] w fun e w' => ∃ A c, e = .returned (.slice A k c) ∧ Gw.Own w' w.heap.size 5 A c (secL n k) ∧ Below w.heap.size w w' := by
  obtain ⟨i0, hi0, hz0, hz1, hz2⟩ := info_parts byte_info
  go_enter Try.func17, Try.ntmps17
  go_wp2
  go_loopw [3, 4] (SecRel w n k) (fun _ i _ => k - (intOf i).toNat)
  case atStart => exact ⟨0, 0, none, Nat.zero_le _, rfl, rfl, Own.none_ _ _ _, (Below.refl _ w).alloc (Nat.le_refl _) _, by simp, World.cell?_alloc_new w _ _ 0, World.cell?_alloc_new w _ _ 2⟩
  case round =>
    obtain ⟨q, c, A, hq, rfl, rfl, hown, hbel, hws, c0, c2⟩ := hrel
    by_cases hlt : q < k
    · obtain ⟨x, hx⟩ : ∃ x, x = n + 1 + q := ⟨_, rfl⟩
      have e1 : (n : Int) + 1 + (q : Int) = (x : Int) := by omega
      have hxb : x < 256 := by omega
      have HX := Lib.hid hx
      have HLE := Lib.hid (secL_len n q)
      have HOW := Lib.hid (hown.alloc (.cells #[.int .u8 (x : Int)] 5))
      have HSL := Lib.hid (Sl.one wr 5 x hxb)
      have HOWN := Lib.hid hown
      have HK0 := Lib.hid c0
      clear hx hown
      go_wp2_with (first | (at_builtin; refine wpList_app rfl (.tmp 11) (.tmp 18) 28 rfl (w.heap.size + 1) 5 i0 _ Try.underlying28 hi0 hz0 hz1 hz2 rfl A q c (secL n q) rfl HLE.out.symm HOW.out (wr.heap.size + 1) (some ⟨wr.heap.size, 0, none⟩) 1 1 [x] rfl rfl (fun h => by cases h) HSL.out (by rw [HLE.out]; simp; omega) (by rw [World.size_alloc]; omega) ?_; intro A2 cN w2 hown2 hgr2) | fail)
      have HB2 := Lib.hid (below_app (base := w.heap.size) hbel (by omega) (HOWN.out.base (by omega)) hgr2)
      have hbx : Below (w.heap.size + 1) wr w2 := below_app (Below.refl _ wr) hws HOWN.out hgr2
      have HC0 := Lib.hid ((hbx.cell (p := ⟨w.heap.size, 0, none⟩) (by show w.heap.size < _; omega)).trans HK0.out)
      have HC2 := Lib.hid ((hbx.cell (p := ⟨w.heap.size, 2, none⟩) (by show w.heap.size < _; omega)).trans c2)
      have HWS := Lib.hid (Nat.le_trans hws hbx.size)
      rw [HX.out, ← secL_succ] at hown2
      have HO2 := Lib.hid hown2
      clear hown2 hgr2 hbx c0 c2
      go_roundw
      case rel => exact ⟨q + 1, cN, A2, by omega, by rw [show (secL n q).length + 1 = q + 1 by rw [HLE.out]], by go_num, HO2.out, HB2.out, HWS.out, HC0.out, HC2.out⟩
      case measure => simp [intOf]; omega
    · obtain rfl : q = k := by omega
      have HO := Lib.hid hown
      clear hown
      go_wp2
      go_ret
      exact ⟨A, c, rfl, HO.out.base (by omega), hbel⟩
/-- A literal of some bytes. -/
theorem own_lit (w : World) (e : TypeId) (l : List Nat) (cs : Array Value) (hc : cs = (bys l).toArray) (hb : BB l) (hl : l.length ≤ 140737488355328) (base : Nat) (hbase : base ≤ w.heap.size) (b : Nat) (hbk : b = w.heap.size) :
    Gw.Own (w.alloc (.cells cs e)) base e (some ⟨b, 0, none⟩) l.length l := by
  subst hc hbk
  refine ⟨⟨by rw [bys_len, Nat.mul_one], .inr ⟨w.heap.size, l.length, _, rfl, hbase, World.alloc_heap_new w _, Nat.le_refl _, by simp only [maxLen]; omega, by simp [bys_len], ?_⟩⟩, hb⟩
  rw [Nat.mul_one]
  exact List.take_of_length_le (by simp [bys_len])
/-- What random polynomials of a kind are multiplied by. -/
def facL (n k g : Nat) (kind : Int) : List Nat := if kind = 2 then rt (secL n k) else if kind = 3 then [g + 1, 1] else [1]
theorem facL_len (n k g : Nat) (kind : Int) : (facL n k g kind).length ≤ k + 2 := by
  unfold facL
  split
  · rw [(rt_top _).1, secL_len]; omega
  · split <;> simp
set_option maxRecDepth 100000 in
theorem rfactor_any (n k g : Nat) (T E R kind gi : Int) (h : n + k ≤ 255) (hg : kind = 3 → gi = (g : Int)) (hg2 : g + 1 ≤ 255) (w : World) :
    Calls Try.prog 49 #[pv n T k E R, .int .i64 kind, .int .i64 gi] w fun e w' => ∃ A c, e = .returned (.slice A (facL n k g kind).length c) ∧ Gw.Own w' w.heap.size 5 A c (facL n k g kind) ∧ Below w.heap.size w w' := by
  have hb : Below w.heap.size w (w.alloc (.cells #[.int .i64 (n : Int), .int .i64 T, .int .i64 (k : Int), .int .i64 E, .int .i64 R] 23)) := (Below.refl _ w).alloc (Nat.le_refl _) _
  by_cases h2 : kind = 2
  · have HE := Lib.hid (show facL n k g kind = rt (secL n k) by unfold facL; rw [if_pos h2])
    subst h2
    have HS := Lib.hid (rsec_any n k T E R h (w.alloc (.cells #[.int .i64 (n : Int), .int .i64 T, .int .i64 (k : Int), .int .i64 E, .int .i64 R] 23)))
    clear hg
    rw [HE.out]
    go_enter Try.func49, Try.ntmps49
    go_wp2_with fail
    refine HS.out.mono ?_
    rintro e w1 ⟨A1, c1, rfl, hown1, hb1⟩
    have HR := Lib.hid (rroots' A1 c1 k (secL n k) w1 (secL_len n k).symm hown1.inn (by rw [secL_len]; omega))
    have HB1 := Lib.hid (hb.trans (hb1.mono hb.size))
    clear hown1 hb1
    go_wp2_with fail
    refine HR.out.mono ?_
    rintro e w2 ⟨A2, c2, rfl, hown2, hb2⟩
    have HO2 := Lib.hid (hown2.base HB1.out.size)
    have HB2 := Lib.hid (HB1.out.trans (hb2.mono HB1.out.size))
    clear hown2 hb2
    go_wp2
    go_ret
    exact ⟨A2, c2, rfl, HO2.out, HB2.out⟩
  have b2 : (kind == 2) = false := beq_eq_false_iff_ne.2 h2
  by_cases h3 : kind = 3
  · have hge := hg h3
    subst hge
    have HE := Lib.hid (show facL n k g kind = [g + 1, 1] by unfold facL; rw [if_neg h2, if_pos h3])
    subst h3
    obtain ⟨x, hx⟩ : ∃ x, x = g + 1 := ⟨_, rfl⟩
    have e1 : (g : Int) + 1 = (x : Int) := by omega
    have hxb : x < 256 := by omega
    rw [← hx] at HE
    rw [HE.out]
    clear hg hx
    go_enter Try.func49, Try.ntmps49
    go_wp2
    go_ret
    refine ⟨_, _, rfl, ?_, hb.alloc hb.size _⟩
    exact own_lit _ _ [x, 1] _ rfl (fun y hy => by simp at hy; omega) (by simp) _ hb.size _ (by simp)
  · have b3 : (kind == 3) = false := beq_eq_false_iff_ne.2 h3
    have HE := Lib.hid (show facL n k g kind = [1] by unfold facL; rw [if_neg h2, if_neg h3])
    rw [HE.out]
    clear hg
    go_enter Try.func49, Try.ntmps49
    go_wp2
    go_ret
    refine ⟨_, _, rfl, ?_, hb.alloc hb.size _⟩
    exact own_lit _ _ [1] _ rfl (fun y hy => by simp at hy; omega) (by simp) _ hb.size _ (by simp)
end Go.Proofs.Ytaknffdokkfmgaa
end
section
/- A row of ints as an argument: opened. -/
namespace Gw
open Go Go.RowKit Go.Shelf Go.ChangeShapes Go.WideShapes Go.ChangeAt
/-- A row of ints that is read. -/
structure InZ (w : World) (B : Nat) (A : Option Addr) (c : Nat) (z : List Int) : Prop where
  sl : ∀ (i : Nat) (x : Int), z[i]? = some x → (Lit.int .i64 x).wf = true ∧ ∃ b off, A = some ⟨b, off, none⟩ ∧ b < B ∧ w.cell? ⟨b, off + i, none⟩ = some (.int .i64 x)
  cap : z.length ≤ c
  none_ : A = none → c = 0
theorem InZ.below {w w' : World} {B : Nat} {A : Option Addr} {c : Nat} {z : List Int} (h : InZ w B A c z) (hb : Below B w w') : InZ w' B A c z := ⟨fun i x hx => by
  obtain ⟨h0, b, off, h1, h2, h3⟩ := h.sl i x hx
  exact ⟨h0, b, off, h1, h2, (hb.cell (p := ⟨b, off + i, none⟩) h2).trans h3⟩, h.cap, h.none_⟩
theorem InZ.more {w : World} {B B' : Nat} {A : Option Addr} {c : Nat} {z : List Int} (h : InZ w B A c z) (hB : B ≤ B') : InZ w B' A c z := ⟨fun i x hx => by
  obtain ⟨h0, b, off, h1, h2, h3⟩ := h.sl i x hx
  exact ⟨h0, b, off, h1, by omega, h3⟩, h.cap, h.none_⟩
theorem open_intz {H : Type} {enc : TypeId × Value → H} {P : Program} {W : World} {t e : TypeId} {r : Reach} {base : Nat} {v : Value} {d : DataW H} {p : List MemPlace}
    (ht : P.underlying t = some (.slice e)) (he : P.underlying e = some (.int .i64)) (hc : P.cellsOf e = 1) (hok : Value.okWide P W r base t v) (h : DataW.Trod enc P W 0 (fun _ => true) true t v d p) :
    ∃ A c z, v = .slice A z.length c ∧ InZ W W.heap.size A c z ∧ ((d = .nil ∧ c = 0) ∨ ∃ el sp, d = .slice el sp ∧ el.length + sp.length = c) := by
  obtain ⟨A, len, cap, rfl⟩ := okWide_slice ht hok
  obtain ⟨fuel, hf⟩ := h
  rcases open_ints ht he hc hf with ⟨hcs, hx⟩ | ⟨a, len', cap', zs, hcs, _, hl, hm, hz, hx, hcell, hwz⟩
  · simp [Value.cells] at hcs
    obtain ⟨rfl, rfl, rfl⟩ := hcs
    injection hx with hx _
    exact ⟨none, 0, [], rfl, ⟨fun i x h => by simp at h, Nat.le_refl _, fun _ => rfl⟩, .inl ⟨hx, rfl⟩⟩
  · simp [Value.cells] at hcs
    obtain ⟨rfl, rfl, rfl⟩ := hcs
    simp only [if_true] at hz
    injection hx with hx _
    have hll : (zs.take len).length = len := by rw [List.length_take]; omega
    refine ⟨some a, cap, zs.take len, by rw [hll], ⟨?_, by omega, fun h => by cases h⟩, .inr ⟨_, _, hx, ?_⟩⟩
    · intro i x hi
      have hil : i < (zs.take len).length := (List.getElem?_eq_some_iff.1 hi).1
      have hiz : i < zs.length := by omega
      rw [List.getElem?_take, if_pos (by omega), List.getElem?_eq_getElem hiz] at hi
      injection hi with hi
      have hc0 := hcell i hiz
      have hg : zs.getD i 0 = zs[i] := by simp [List.getD, hiz]
      rw [hg, hi] at hc0
      obtain ⟨b, off, spot⟩ := a
      have hsp : spot = none := by
        have h0 := World.cell?_spot (hcell 0 (by omega))
        simpa [Addr.add] using h0
      subst hsp
      have hadd : (⟨b, off, none⟩ : Addr).add i = ⟨b, off + i, none⟩ := by
        unfold Addr.add; split
        · rename_i h0; subst h0; rfl
        · rfl
      rw [hadd] at hc0
      refine ⟨hwz x (by rw [← hi]; exact List.getElem_mem hiz), b, off, rfl, ?_, hc0⟩
      have : W.heap[b]? ≠ none := fun hn => by
        unfold World.cell? at hc0
        simp [hn] at hc0
      rcases Nat.lt_or_ge b W.heap.size with h1 | h1
      · exact h1
      · exact absurd (Array.getElem?_eq_none h1) this
    · simp [lits]; omega
theorem sized_ints {H : Type} {P : Program} {ts : List TypeId} {ds : List (DataW H)} (h : (DataW.weightsEach P ts ds).all (· ≤ reachBytes) = true) {j : Nat} {t e : TypeId} {d : DataW H} {c : Nat} (ht : ts[j]? = some t) (hd : ds[j]? = some d)
    (hu : P.underlying t = some (.slice e)) (hb : P.bytesOf e = 8) (hc : (d = .nil ∧ c = 0) ∨ ∃ el sp, d = .slice el sp ∧ el.length + sp.length = c) : c ≤ 17592186043904 := by
  rcases hc with ⟨_, rfl⟩ | ⟨el, sp, rfl, rfl⟩
  · omega
  · have := sized_slice h ht hd hu
    rw [hb] at this
    have h8 : reachBytes = 140737488351232 := rfl
    omega
end Gw
end
section
/- What the definition's own Xs (package shamrockref10) does: the points of some holders. -/
namespace Go.Proofs.Ytaknffdokkfmgaa
open Go.RowKit Go.Shelf Gw Pol
/-- The points of holders from 0 to 300. -/
def xsL (z : List Int) : List Nat := z.map fun x => ((x + 1) % 256).toNat
theorem xsL_len (z : List Int) : (xsL z).length = z.length := by simp [xsL]
theorem xsL_bb (z : List Int) : BB (xsL z) := fun x hx => by
  obtain ⟨y, _, rfl⟩ := List.mem_map.1 hx
  omega
theorem xsL_take {z : List Int} {q : Nat} {x : Int} (h : z[q]? = some x) : xsL (z.take (q + 1)) = xsL (z.take q) ++ [((x + 1) % 256).toNat] := by
  rw [List.take_add_one, h]; simp [xsL]
def XsRel (w : World) (z : List Int) (v i : Value) (wr : World) : Prop :=
  ∃ (q c : Nat) (A : Option Addr), q ≤ z.length ∧ v = .slice A q c ∧ i = .int .i64 (q : Int) ∧ Gw.Own wr w.heap.size 5 A c (xsL (z.take q)) ∧ Below w.heap.size w wr
set_option maxRecDepth 100000 in
set_option maxHeartbeats 1000000 in
theorem rxs_any (A : Option Addr) (c N : Nat) (z : List Int) (hN : N = z.length) (w : World) (hI : InZ w w.heap.size A c z) (hz : ∀ x ∈ z, 0 ≤ x ∧ x ≤ 300) (hNb : N ≤ 17592186043904) :
    Calls Try.prog 15 #[.slice A N c] w fun e w' => ∃ A2 c2, e = .returned (.slice A2 N c2) ∧ Gw.Own w' w.heap.size 5 A2 c2 (xsL z) ∧ Below w.heap.size w w' := by
  obtain ⟨i0, hi0, hz0, hz1, hz2⟩ := info_parts byte_info
  have HN := Lib.hid hN
  clear hN
  have hcap := hI.cap
  rw [← HN.out] at hcap
  go_enter Try.func15, Try.ntmps15
  go_wp2
  go_loopw [3, 4] (XsRel w z) (fun _ i _ => N - (intOf i).toNat)
  case atStart => exact ⟨0, 0, none, Nat.zero_le _, rfl, rfl, Own.none_ _ _ _, Below.refl _ _⟩
  case round =>
    obtain ⟨q, cq, Aq, hq, rfl, rfl, hown, hbel⟩ := hrel
    rw [← HN.out] at hq
    by_cases hlt : q < N
    · have hqz : q < z.length := by rw [← HN.out]; exact hlt
      obtain ⟨hwf, b, off, hA, hb, hcell⟩ := (hI.below hbel).sl q z[q] (List.getElem?_eq_getElem hqz)
      subst hA
      have hzq := hz z[q] (List.getElem_mem hqz)
      obtain ⟨x, hx⟩ : ∃ x, x = z[q] := ⟨_, rfl⟩
      rw [← hx] at hcell hzq
      obtain ⟨h1, h2⟩ := hzq
      obtain ⟨y, hy⟩ : ∃ y, y = ((x + 1) % 256).toNat := ⟨_, rfl⟩
      have hyb : y < 256 := by omega
      have e1 : IntKind.u8.wrap (x + 1) = (y : Int) := by rw [IntKind.wrap_u8]; omega
      have HT := Lib.hid (show xsL (z.take (q + 1)) = xsL (z.take q) ++ [y] by rw [xsL_take (List.getElem?_eq_getElem hqz), ← hx, hy])
      have HLE := Lib.hid (show (xsL (z.take q)).length = q by rw [xsL_len, List.length_take]; omega)
      have HOW := Lib.hid (hown.alloc (.cells #[.int .u8 (y : Int)] 5))
      have HSL := Lib.hid (Sl.one wr 5 y hyb)
      have HOWN := Lib.hid hown
      have hbs := hbel.size
      clear hx hown hy hwf
      go_wp2_with (first | (at_builtin; refine wpList_app rfl (.tmp 11) (.tmp 18) 28 rfl w.heap.size 5 i0 _ Try.underlying28 hi0 hz0 hz1 hz2 rfl Aq q cq (xsL (z.take q)) rfl HLE.out.symm HOW.out (wr.heap.size + 1) (some ⟨wr.heap.size, 0, none⟩) 1 1 [y] rfl rfl (fun h => by cases h) HSL.out (by rw [HLE.out]; simp; omega) (by rw [World.size_alloc]; omega) ?_; intro A2 cN w2 hown2 hgr2; rw [List.length_append, HLE.out]) | fail)
      have HB2 := Lib.hid (below_app hbel hbel.size HOWN.out hgr2)
      rw [← HT.out] at hown2
      have HO2 := Lib.hid hown2
      clear hown2 hgr2
      go_roundw
      case rel => exact ⟨q + 1, cN, A2, by rw [← HN.out]; omega, rfl, by go_num, HO2.out, HB2.out⟩
      case measure => simp [intOf]; omega
    · obtain rfl : q = N := by omega
      have HO := Lib.hid (show Gw.Own wr w.heap.size 5 Aq cq (xsL z) by rw [HN.out, List.take_length] at hown; exact hown)
      clear hown
      go_wp2
      go_ret
      exact ⟨_, _, rfl, HO.out, hbel⟩
end Go.Proofs.Ytaknffdokkfmgaa
end
section
/- A byte among the program's types. -/
namespace Go.Proofs.Ytaknffdokkfmgaa
open Go.RowKit Go.Shelf Gw Pol
theorem pbyte_info : (Try.prog.info? 5).map (fun i => (i.zero, i.size, i.bytes)) = some (some (.int .u8 0), 1, 1) := by kernel_rfl
theorem pbyte_size : (Try.prog.info? 5).map (·.size) = some 1 := by kernel_rfl
end Go.Proofs.Ytaknffdokkfmgaa
end
