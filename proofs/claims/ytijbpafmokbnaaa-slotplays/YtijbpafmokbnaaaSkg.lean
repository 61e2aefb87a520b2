/- A slot on a disk, in numbers: what the disk holds while a Save goes on. -/
import Derived.Test.YtijbpafmokbnaaaSka
import Derived.Test.YtijbpafmokbnaaaDkf
namespace Go.Proofs.Ytijbpafmokbnaaa
open Go.RowKit Go.Shelf Gw Pol
/-! How many writes are done. -/
def Pw.done : Nat → Pw → Nat
  | 0, _ => 0
  | n + 1, s => bif s.can then Pw.done n s.one + 1 else 0
theorem Pw.done_le : ∀ (n : Nat) (s : Pw), Pw.done n s ≤ n
  | 0, _ => Nat.le_refl _
  | n + 1, s => by
    show (bif s.can then Pw.done n s.one + 1 else 0) ≤ n + 1
    have := Pw.done_le n s.one
    cases s.can <;> simp only [cond_true, cond_false] <;> omega
theorem Pw.done_ok : ∀ (n : Nat) (s : Pw), Pw.ok n s = true → Pw.done n s = n
  | 0, _, _ => rfl
  | n + 1, s, h => by
    simp only [Pw.ok, Bool.and_eq_true] at h
    show (bif s.can then Pw.done n s.one + 1 else 0) = n + 1
    rw [h.1, cond_true, Pw.done_ok n s.one h.2]
theorem Pw.done_stops : ∀ (n k : Nat) (s : Pw), Pw.ok n s = true → (Pw.go n s).can = false → Pw.done (n + 1 + k) s = n
  | 0, k, s, _, h => by
    have h' : s.can = false := h
    rw [show 0 + 1 + k = k + 1 by omega]
    show (bif s.can then Pw.done k s.one + 1 else 0) = 0
    rw [h']; rfl
  | n + 1, k, s, h1, h2 => by
    simp only [Pw.ok, Bool.and_eq_true] at h1
    have h2' : (Pw.go n s.one).can = false := by
      have : (bif s.can then Pw.go n s.one else s.one).can = false := h2
      rwa [h1.1] at this
    rw [show n + 1 + 1 + k = (n + 1 + k) + 1 by omega]
    show (bif s.can then Pw.done (n + 1 + k) s.one + 1 else 0) = n + 1
    rw [h1.1, cond_true, Pw.done_stops n k s.one h1.2 h2']
theorem Pw.go_add : ∀ (a b : Nat) (s : Pw), Pw.ok a s = true → Pw.go (a + b) s = Pw.go b (Pw.go a s) ∧ Pw.ok (a + b) s = Pw.ok b (Pw.go a s)
  | 0, b, s, _ => by rw [Nat.zero_add]; exact ⟨rfl, rfl⟩
  | a + 1, b, s, h => by
    simp only [Pw.ok, Bool.and_eq_true] at h
    rw [show a + 1 + b = (a + b) + 1 by omega]
    obtain ⟨h1, h2⟩ := Pw.go_add a b s.one h.2
    constructor
    · show (bif s.can then Pw.go (a + b) s.one else s.one) = Pw.go b (bif s.can then Pw.go a s.one else s.one)
      rw [h.1]; exact h1
    · show (s.can && Pw.ok (a + b) s.one) = Pw.ok b (bif s.can then Pw.go a s.one else s.one)
      rw [h.1, Bool.true_and]; exact h2
theorem Pw.go_not : ∀ (a b : Nat) (s : Pw), Pw.ok a s = false → Pw.go (a + b) s = Pw.go a s ∧ Pw.ok (a + b) s = false ∧ Pw.done (a + b) s = Pw.done a s ∧ Pw.done a s < a
  | 0, _, _, h => by cases h
  | a + 1, b, s, h => by
    rw [show a + 1 + b = (a + b) + 1 by omega]
    show (bif s.can then Pw.go (a + b) s.one else s.one) = (bif s.can then Pw.go a s.one else s.one) ∧ (s.can && Pw.ok (a + b) s.one) = false ∧ (bif s.can then Pw.done (a + b) s.one + 1 else 0) = (bif s.can then Pw.done a s.one + 1 else 0) ∧ (bif s.can then Pw.done a s.one + 1 else 0) < a + 1
    cases hc : s.can with
    | false => exact ⟨rfl, rfl, rfl, Nat.zero_lt_succ _⟩
    | true =>
      have h' : Pw.ok a s.one = false := by
        have : (s.can && Pw.ok a s.one) = false := h
        rwa [hc, Bool.true_and] at this
      obtain ⟨h1, h2, h3, h4⟩ := Pw.go_not a b s.one h'
      exact ⟨h1, by rw [h2]; rfl, by rw [cond_true, cond_true, h3], by rw [cond_true]; omega⟩
/-- Where the power is not gone all were done. -/
theorem Pw.go_gone : ∀ (n : Nat) (s : Pw), Pw.ok n s = false → (Pw.go n s).gone = true
  | 0, _, h => by cases h
  | n + 1, s, h => by
    show (bif s.can then Pw.go n s.one else s.one).gone = true
    cases hc : s.can with
    | false => rw [cond_false, Pw.one_no hc]
    | true =>
      have h' : Pw.ok n s.one = false := by
        have : (s.can && Pw.ok n s.one) = false := h
        rwa [hc, Bool.true_and] at this
      exact Pw.go_gone n s.one h'
theorem Pw.go_on : ∀ (n : Nat) (s : Pw), Pw.ok (n + 1) s = true → (Pw.go (n + 1) s).gone = false
  | 0, s, h => by
    simp only [Pw.ok, Bool.and_true] at h
    show (bif s.can then s.one else s.one).gone = false
    rw [h, cond_true, Pw.one_yes h]
  | n + 1, s, h => by
    have h1 : s.can = true ∧ Pw.ok (n + 1) s.one = true := by
      have : (s.can && Pw.ok (n + 1) s.one) = true := h
      rwa [Bool.and_eq_true] at this
    show (bif s.can then Pw.go (n + 1) s.one else s.one).gone = false
    rw [h1.1, cond_true]
    exact Pw.go_on n s.one h1.2
theorem Pw.done_u : ∀ (n : Nat) (s : Pw), (Pw.go n s).u = s.u + Pw.done n s
  | 0, _ => rfl
  | n + 1, s => by
    show (bif s.can then Pw.go n s.one else s.one).u = s.u + (bif s.can then Pw.done n s.one + 1 else 0)
    cases hc : s.can with
    | false => rw [cond_false, cond_false, Pw.one_no hc]; rfl
    | true =>
      rw [cond_true, cond_true, Pw.done_u n s.one, Pw.one_yes hc]
      show s.u + 1 + _ = _
      omega
/-! Bytes, place by place. -/
theorem co_def (l : List Nat) (k : Nat) : co l k = l[k]?.getD 0 := by
  unfold co
  exact List.getD_eq_getElem?_getD
theorem co_laid {L b : List Nat} {o : Nat} (k : Nat) (h : o + b.length ≤ L.length) : co (laid L o b) k = if o ≤ k ∧ k < o + b.length then co b (k - o) else co L k := by
  rw [co_def, co_def, co_def, laid_get k h]
  by_cases c1 : k < o
  · rw [if_pos c1, if_neg (by omega)]
  · rw [if_neg c1]
    by_cases c2 : k < o + b.length
    · rw [if_pos c2, if_pos ⟨by omega, c2⟩]
    · rw [if_neg c2, if_neg (by omega)]
/-- The root: which side, and how many bytes. -/
def rootB (side m : Nat) : List Nat := [side, m / 16777216 % 256, m / 65536 % 256, m / 256 % 256, m % 256] ++ List.replicate 27 0
theorem rootB_len (side m : Nat) : (rootB side m).length = 32 := by unfold rootB; simp
/-- Block i of K, filled up. -/
def blk (K : List Nat) (i : Nat) : List Nat := (List.range 32).map fun t => co K (i * 32 + t)
theorem blk_len (K : List Nat) (i : Nat) : (blk K i).length = 32 := by unfold blk; simp
theorem co_blk (K : List Nat) (i t : Nat) (ht : t < 32) : co (blk K i) t = co K (i * 32 + t) := by
  unfold blk
  rw [co_def, List.getElem?_map, List.getElem?_range ht]; rfl
theorem co_z32 (t : Nat) : co z32 t = 0 := by
  unfold z32
  rw [co_def, List.getElem?_replicate]
  split <;> rfl
theorem co_piece {L : List Nat} {k t : Nat} (ht : t < 32) : co (piece L k) t = co L (k * 32 + t) := by
  rw [co_def, co_def, piece_get, if_pos ht]
theorem ext32 {a b : List Nat} (ha : a.length = 32) (hb : b.length = 32) (h : ∀ t, t < 32 → co a t = co b t) : a = b := by
  apply List.ext_getElem (by rw [ha, hb])
  intro t h1 h2
  have := h t (by omega)
  rwa [co_get h1, co_get h2] at this
theorem piece_eq {L b : List Nat} {n k : Nat} (hL : L.length = 32 * n) (hk : k < n) (hb : b.length = 32) (h : ∀ t, t < 32 → co L (k * 32 + t) = co b t) : piece L k = b :=
  ext32 (piece_len hL hk) hb fun t ht => (co_piece ht).trans (h t ht)
/-- A slot of r blocks a side on a disk: side holds, K is kept. -/
structure Sd (r : Nat) (L : List Nat) (side : Nat) (K : List Nat) : Prop where
  len : L.length = 32 * (1 + 2 * r)
  few : r ≤ 512
  two : side ≤ 1
  root : ∀ t, t < 32 → co L t = co (rootB side K.length) t
  fit : K.length ≤ 32 * r
  data : ∀ a, a < 32 * r → co L (32 * (1 + side * r) + a) = co K a
/-- The other side is wiped. -/
def Cl (r : Nat) (L : List Nat) (side : Nat) : Prop := ∀ a, a < 32 * r → co L (32 * (1 + (1 - side) * r) + a) = 0
theorem tk_le {n r : Nat} : tk n ≤ r ↔ n ≤ 32 * r := by unfold tk; omega
theorem Sd.rootp {r : Nat} {L : List Nat} {side : Nat} {K : List Nat} (h : Sd r L side K) : piece L 0 = rootB side K.length :=
  piece_eq h.len (by omega) (rootB_len _ _) fun t ht => by rw [Nat.zero_mul, Nat.zero_add]; exact h.root t ht
theorem Sd.block {r : Nat} {L : List Nat} {side : Nat} {K : List Nat} (h : Sd r L side K) {i : Nat} (hi : i < r) : piece L (1 + side * r + i) = blk K i := by
  have h2 : side * r ≤ r := by have := h.two; rcases (by omega : side = 0 ∨ side = 1) with e | e <;> rw [e] <;> omega
  exact piece_eq h.len (by omega) (blk_len _ _) fun t ht => by
    rw [co_blk K i t ht, ← h.data (i * 32 + t) (by omega)]
    congr 1
    omega
/-- A new disk. -/
theorem Sd.new (r : Nat) (hr : r ≤ 512) : Sd r (List.replicate (32 * (1 + 2 * r)) 0) 0 [] ∧ Cl r (List.replicate (32 * (1 + 2 * r)) 0) 0 := by
  have hz : ∀ k m, co (List.replicate m 0) k = 0 := fun k m => by
    rw [co_def, List.getElem?_replicate]; split <;> rfl
  refine ⟨⟨by simp, hr, by omega, fun t ht => ?_, by simp, fun a _ => by rw [hz]; rfl⟩, fun a _ => hz _ _⟩
  rw [hz]
  show 0 = co (rootB 0 0) t
  have : rootB 0 0 = List.replicate 32 0 := by decide
  rw [this, hz]
/-- The writes of a Save, one by one. -/
def wsS (r side : Nat) (b : List Nat) (j : Nat) : Nat × List Nat :=
  if j < tk b.length then (1 + (1 - side) * r + j, blk b j) else if j = tk b.length then (0, rootB (1 - side) b.length) else (1 + side * r + (j - tk b.length - 1), z32)
/-- Behind the first d of them. -/
def lay (ws : Nat → Nat × List Nat) (L : List Nat) : Nat → List Nat
  | 0 => L
  | d + 1 => laid (lay ws L d) ((ws d).1 * 32) (ws d).2
theorem lay_succ (ws : Nat → Nat × List Nat) (L : List Nat) (d : Nat) : lay ws L (d + 1) = laid (lay ws L d) ((ws d).1 * 32) (ws d).2 := rfl
theorem wsS_len (r side : Nat) (b : List Nat) (j : Nat) : (wsS r side b j).2.length = 32 := by
  unfold wsS
  split
  · exact blk_len _ _
  · split
    · exact rootB_len _ _
    · rfl
theorem lay_len {ws : Nat → Nat × List Nat} {L : List Nat} {n : Nat} (hL : L.length = 32 * n) (d : Nat) (hw : ∀ j, j < d → (ws j).2.length = 32 ∧ (ws j).1 < n) : (lay ws L d).length = 32 * n := by
  induction d with
  | zero => exact hL
  | succ d ih =>
    have h1 := ih fun j hj => hw j (by omega)
    obtain ⟨h2, h3⟩ := hw d (by omega)
    show (laid (lay ws L d) ((ws d).1 * 32) (ws d).2).length = _
    rw [laid_len (by omega), h1]
theorem co_ge {l : List Nat} {k : Nat} (h : l.length ≤ k) : co l k = 0 := by
  rw [co_def, List.getElem?_eq_none h]; rfl
section
variable {r : Nat} {L : List Nat} {side : Nat} {K b : List Nat}
/-- While the new is written, place by place. -/
theorem lay_new (hL : L.length = 32 * (1 + 2 * r)) (h2 : side ≤ 1) (ht : tk b.length ≤ r) : ∀ (d : Nat), d ≤ tk b.length → (lay (wsS r side b) L d).length = 32 * (1 + 2 * r) ∧
    ∀ k, co (lay (wsS r side b) L d) k = if 32 * (1 + (1 - side) * r) ≤ k ∧ k < 32 * (1 + (1 - side) * r) + 32 * d then co b (k - 32 * (1 + (1 - side) * r)) else co L k
  | 0, _ => ⟨hL, fun k => by rw [if_neg (by omega)]; rfl⟩
  | d + 1, hd => by
    obtain ⟨i1, i2⟩ := lay_new hL h2 ht d (by omega)
    have hs : (1 - side) * r ≤ r := by rcases (by omega : side = 0 ∨ side = 1) with e | e <;> rw [e] <;> omega
    have e1 : (wsS r side b d).1 = 1 + (1 - side) * r + d := by unfold wsS; rw [if_pos (by omega)]
    have e2 : (wsS r side b d).2 = blk b d := by unfold wsS; rw [if_pos (by omega)]
    have e3 : lay (wsS r side b) L (d + 1) = laid (lay (wsS r side b) L d) ((1 + (1 - side) * r + d) * 32) (blk b d) := by
      show laid _ _ _ = _
      rw [e1, e2]
    have hb := blk_len b d
    generalize (1 - side) * r = z at *
    rw [e3]
    refine ⟨by rw [laid_len (by omega), i1], fun k => ?_⟩
    rw [co_laid k (by omega), hb, i2 k]
    by_cases c : (1 + z + d) * 32 ≤ k ∧ k < (1 + z + d) * 32 + 32
    · rw [if_pos c, if_pos (by omega), co_blk b d _ (by omega)]
      congr 1
      omega
    · rw [if_neg c]
      by_cases c2 : 32 * (1 + z) ≤ k ∧ k < 32 * (1 + z) + 32 * d
      · rw [if_pos c2, if_pos (by omega)]
      · rw [if_neg c2, if_neg (by omega)]
/-- Behind the root. -/
theorem lay_old (hL : L.length = 32 * (1 + 2 * r)) (h2 : side ≤ 1) (ht : tk b.length ≤ r) : ∀ (e : Nat), e ≤ r → (lay (wsS r side b) L (tk b.length + 1 + e)).length = 32 * (1 + 2 * r) ∧
    ∀ k, co (lay (wsS r side b) L (tk b.length + 1 + e)) k = if 32 * (1 + side * r) ≤ k ∧ k < 32 * (1 + side * r) + 32 * e then 0 else if k < 32 then co (rootB (1 - side) b.length) k else
      if 32 * (1 + (1 - side) * r) ≤ k ∧ k < 32 * (1 + (1 - side) * r) + 32 * tk b.length then co b (k - 32 * (1 + (1 - side) * r)) else co L k
  | 0, _ => by
    obtain ⟨i1, i2⟩ := lay_new hL h2 ht (tk b.length) (Nat.le_refl _)
    have e1 : (wsS r side b (tk b.length)).1 = 0 := by unfold wsS; rw [if_neg (by omega), if_pos rfl]
    have e2 : (wsS r side b (tk b.length)).2 = rootB (1 - side) b.length := by unfold wsS; rw [if_neg (by omega), if_pos rfl]
    have e3 : lay (wsS r side b) L (tk b.length + 1 + 0) = laid (lay (wsS r side b) L (tk b.length)) 0 (rootB (1 - side) b.length) := by
      show laid _ _ _ = _
      rw [e1, e2]
    have hb := rootB_len (1 - side) b.length
    rw [e3]
    refine ⟨by rw [laid_len (by omega), i1], fun k => ?_⟩
    rw [co_laid k (by omega), hb, i2 k, if_neg (show ¬ (32 * (1 + side * r) ≤ k ∧ k < 32 * (1 + side * r) + 32 * 0) by omega)]
    by_cases c : k < 32
    · rw [if_pos (by omega), if_pos c, Nat.sub_zero]
    · rw [if_neg (by omega), if_neg c]
  | e + 1, he => by
    obtain ⟨i1, i2⟩ := lay_old hL h2 ht e (by omega)
    have hs : side * r ≤ r := by rcases (by omega : side = 0 ∨ side = 1) with e | e <;> rw [e] <;> omega
    have e1 : (wsS r side b (tk b.length + 1 + e)).1 = 1 + side * r + e := by
      unfold wsS
      rw [if_neg (by omega), if_neg (by omega)]
      show 1 + side * r + (tk b.length + 1 + e - tk b.length - 1) = _
      omega
    have e2 : (wsS r side b (tk b.length + 1 + e)).2 = z32 := by unfold wsS; rw [if_neg (by omega), if_neg (by omega)]
    have e3 : lay (wsS r side b) L (tk b.length + 1 + (e + 1)) = laid (lay (wsS r side b) L (tk b.length + 1 + e)) ((1 + side * r + e) * 32) z32 := by
      rw [show tk b.length + 1 + (e + 1) = (tk b.length + 1 + e) + 1 from rfl, lay_succ, e1, e2]
    have hb : z32.length = 32 := rfl
    rw [e3]
    generalize side * r = z at *
    refine ⟨by rw [laid_len (by omega), i1], fun k => ?_⟩
    rw [co_laid k (by omega), hb, i2 k]
    by_cases c : (1 + z + e) * 32 ≤ k ∧ k < (1 + z + e) * 32 + 32
    · rw [if_pos c, if_pos (by omega), co_z32]
    · rw [if_neg c]
      by_cases c2 : 32 * (1 + z) ≤ k ∧ k < 32 * (1 + z) + 32 * e
      · rw [if_pos c2, if_pos (by omega)]
      · rw [if_neg c2, if_neg (show ¬ (32 * (1 + z) ≤ k ∧ k < 32 * (1 + z) + 32 * (e + 1)) by omega)]
/-- Before the root is written all of the old is kept. -/
theorem Sd.before (h : Sd r L side K) (ht : tk b.length ≤ r) (d : Nat) (hd : d ≤ tk b.length) : Sd r (lay (wsS r side b) L d) side K := by
  obtain ⟨i1, i2⟩ := lay_new h.len h.two ht d hd
  refine ⟨i1, h.few, h.two, fun t h32 => ?_, h.fit, fun a ha => ?_⟩
  · rw [i2, if_neg (by omega)]; exact h.root t h32
  · rw [i2, if_neg, h.data a ha]
    rcases (by have := h.two; omega : side = 0 ∨ side = 1) with e | e <;> rw [e] <;> simp only [Nat.sub_zero, Nat.sub_self, Nat.one_mul, Nat.zero_mul, Nat.add_zero] <;> omega
/-- Behind it all of the new is. -/
theorem Sd.behind (h : Sd r L side K) (hc : Cl r L side) (ht : tk b.length ≤ r) (e : Nat) (he : e ≤ tk K.length) : Sd r (lay (wsS r side b) L (tk b.length + 1 + e)) (1 - side) b := by
  have hko := tk_le.2 h.fit
  obtain ⟨i1, i2⟩ := lay_old h.len h.two ht e (by omega)
  refine ⟨i1, h.few, by omega, fun t h32 => ?_, tk_le.1 ht, fun a ha => ?_⟩
  · rw [i2, if_neg (by omega), if_pos h32]
  · have hcl := hc a ha
    have hge : 32 * tk b.length ≤ a → co b a = 0 := fun h => co_ge (by unfold tk at h; omega)
    rw [i2, if_neg, if_neg (by omega)]
    · by_cases c : a < 32 * tk b.length
      · rw [if_pos (by omega)]
        congr 1
        omega
      · rw [if_neg (by omega), hcl, hge (by omega)]
    · rcases (by have := h.two; omega : side = 0 ∨ side = 1) with e | e <;> rw [e] <;> simp only [Nat.sub_zero, Nat.sub_self, Nat.one_mul, Nat.zero_mul, Nat.add_zero] <;> omega
/-- When all is written nothing of the old is left. -/
theorem Sd.wiped (h : Sd r L side K) (ht : tk b.length ≤ r) : Cl r (lay (wsS r side b) L (tk b.length + 1 + tk K.length)) (1 - side) := by
  have hko := tk_le.2 h.fit
  obtain ⟨_, i2⟩ := lay_old h.len h.two ht (tk K.length) hko
  intro a ha
  have hge : 32 * tk K.length ≤ a → co K a = 0 := fun h => co_ge (by unfold tk at h; omega)
  have hdat := h.data a ha
  rw [show 1 - (1 - side) = side by have := h.two; omega, i2]
  by_cases c : a < 32 * tk K.length
  · rw [if_pos (by omega)]
  · rw [if_neg (by omega), if_neg (by omega), if_neg, hdat, hge (by omega)]
    rcases (by have := h.two; omega : side = 0 ∨ side = 1) with e | e <;> rw [e] <;> simp only [Nat.sub_zero, Nat.sub_self, Nat.one_mul, Nat.zero_mul, Nat.add_zero] <;> omega
/-- A byte of what is kept is turned. -/
theorem Sd.turn (h : Sd r L side K) (a x : Nat) (ha : a < K.length) : Sd r (L.set (32 * (1 + side * r) + a) x) side (K.set a x) ∧ co L (32 * (1 + side * r) + a) = co K a := by
  have hf := h.fit
  have hL := h.len
  have hs : side * r ≤ r := by rcases (by have := h.two; omega : side = 0 ∨ side = 1) with e | e <;> rw [e] <;> omega
  have hset : ∀ (l : List Nat) (p q : Nat), p < l.length → co (l.set p x) q = if q = p then x else co l q := fun l p q hp => by
    rw [co_def, co_def, List.getElem?_set]
    by_cases e : p = q
    · rw [if_pos e, if_pos e.symm, if_pos hp]; rfl
    · rw [if_neg e, if_neg (Ne.symm e)]
  refine ⟨⟨by rw [List.length_set]; exact hL, h.few, h.two, fun t ht => ?_, by rw [List.length_set]; exact hf, fun c hc => ?_⟩, h.data a (by omega)⟩
  · rw [hset _ _ _ (by omega), if_neg (by omega), List.length_set]; exact h.root t ht
  · rw [hset _ _ _ (by omega), hset _ _ _ ha, h.data c hc]
    by_cases e : c = a
    · rw [if_pos e, if_pos (by omega)]
    · rw [if_neg e, if_neg (by omega)]
theorem Cl.turn (h : Sd r L side K) (hc : Cl r L side) (a x : Nat) (ha : a < K.length) : Cl r (L.set (32 * (1 + side * r) + a) x) side := by
  intro c hcr
  have hf := h.fit
  have hcl := hc c hcr
  rw [co_def] at hcl ⊢
  rw [List.getElem?_set_ne, hcl]
  rcases (by have := h.two; omega : side = 0 ∨ side = 1) with e | e <;> rw [e] <;> simp only [Nat.sub_zero, Nat.sub_self, Nat.one_mul, Nat.zero_mul, Nat.add_zero] <;> omega
end
end Go.Proofs.Ytijbpafmokbnaaa
