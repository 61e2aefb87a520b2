/- Messages in numbers: parts one behind the other (numbers and bytes), a message's parts, and what is read of bytes. -/
import Derived.Test.YtabalhhodcajmaaWdf
namespace Gw
open Go Go.RowKit Go.Shelf Pol

/-! Parts. -/
inductive Tk where
  | n (z : Int)
  | l (b : List Nat)
def Tk.en : Tk → List Nat
  | .n z => num z
  | .l b => lay b
def Tk.ok : Tk → Bool
  | .n z => okN z
  | .l b => okL b
def Tk.sz : Tk → Nat
  | .n _ => 4
  | .l b => b.length + 2
def enT : List Tk → List Nat
  | [] => []
  | x :: t => x.en ++ enT t
def okT : List Tk → Bool
  | [] => true
  | x :: t => x.ok && okT t
def szT : List Tk → Nat
  | [] => 0
  | x :: t => x.sz + szT t
theorem en_len (x : Tk) : x.en.length = x.sz := by cases x <;> rfl
theorem enT_len : ∀ t, (enT t).length = szT t
  | [] => rfl
  | x :: t => by rw [enT, szT, List.length_append, en_len, enT_len t]
theorem enT_app : ∀ s t, enT (s ++ t) = enT s ++ enT t
  | [], t => rfl
  | x :: s, t => by rw [List.cons_append, enT, enT_app s t, enT, List.append_assoc]
theorem okT_app : ∀ s t, okT (s ++ t) = (okT s && okT t)
  | [], t => by simp [okT]
  | x :: s, t => by rw [List.cons_append, okT, okT_app s t, okT, Bool.and_assoc]
theorem szT_app : ∀ s t, szT (s ++ t) = szT s + szT t
  | [], t => by simp [szT]
  | x :: s, t => by rw [List.cons_append, szT, szT_app s t, szT, Nat.add_assoc]
/-- What a writer is behind parts, and a book. -/
def wrT (l : List Nat) (bad : Bool) : List Tk → List Nat × Bool
  | [] => (l, bad)
  | .n z :: t => wrT (wrN l bad z).1 (wrN l bad z).2 t
  | .l b :: t => wrT (wrL l bad b).1 (wrL l bad b).2 t
def bkT (l : List Nat) (bad : Bool) : List Tk → List Nat × Bool
  | [] => (l, bad)
  | .n z :: t => bkT (bkN l bad z).1 (bkN l bad z).2 t
  | .l b :: t => bkT (bkL l bad b).1 (bkL l bad b).2 t
theorem wrT_app : ∀ (s t : List Tk) (l : List Nat) (bad : Bool), wrT l bad (s ++ t) = wrT (wrT l bad s).1 (wrT l bad s).2 t
  | [], _, _, _ => rfl
  | .n z :: s, t, l, bad => by rw [List.cons_append, wrT, wrT_app s t, wrT]
  | .l b :: s, t, l, bad => by rw [List.cons_append, wrT, wrT_app s t, wrT]
theorem bkT_app : ∀ (s t : List Tk) (l : List Nat) (bad : Bool), bkT l bad (s ++ t) = bkT (bkT l bad s).1 (bkT l bad s).2 t
  | [], _, _, _ => rfl
  | .n z :: s, t, l, bad => by rw [List.cons_append, bkT, bkT_app s t, bkT]
  | .l b :: s, t, l, bad => by rw [List.cons_append, bkT, bkT_app s t, bkT]
theorem wrT_nil : ∀ (t : List Tk) (l : List Nat) (bad : Bool), (bad = true → l = []) → (wrT l bad t).2 = true → (wrT l bad t).1 = []
  | [], _, _, h, h2 => h h2
  | .n z :: t, l, bad, _, h2 => wrT_nil t _ _ (wrN_nil l bad z) h2
  | .l b :: t, l, bad, _, h2 => wrT_nil t _ _ (wrL_nil l bad b) h2
theorem wrL_len' (l : List Nat) (bad : Bool) (b : List Nat) : (wrL l bad b).1.length ≤ l.length + (b.length + 2) := by
  unfold wrL
  split
  · split
    · simp
    · rw [List.length_append, lay_len]; omega
  · simp
theorem wrT_len : ∀ (t : List Tk) (l : List Nat) (bad : Bool), (wrT l bad t).1.length ≤ l.length + szT t
  | [], _, _ => Nat.le_refl _
  | .n z :: t, l, bad => by
    have h1 := wrT_len t (wrN l bad z).1 (wrN l bad z).2
    have h2 := wrN_len l bad z
    have h3 : szT (.n z :: t) = 4 + szT t := rfl
    rw [wrT]; omega
  | .l b :: t, l, bad => by
    have h1 := wrT_len t (wrL l bad b).1 (wrL l bad b).2
    have h2 := wrL_len' l bad b
    have h3 : szT (.l b :: t) = b.length + 2 + szT t := rfl
    rw [wrT]; omega
theorem bkT_len : ∀ (t : List Tk) (l : List Nat) (bad : Bool), (bkT l bad t).1.length ≤ l.length + szT t
  | [], _, _ => Nat.le_refl _
  | .n z :: t, l, bad => by
    have h1 := bkT_len t (bkN l bad z).1 (bkN l bad z).2
    have h2 := orN_num z
    have h3 : szT (.n z :: t) = 4 + szT t := rfl
    have h4 : (bkN l bad z).1.length = l.length + (orN (okN z) (num z)).length := by rw [bkN_eq]; exact List.length_append
    rw [bkT]; omega
  | .l b :: t, l, bad => by
    have h1 := bkT_len t (bkL l bad b).1 (bkL l bad b).2
    have h2 := orN_lay b
    have h3 : szT (.l b :: t) = b.length + 2 + szT t := rfl
    have h4 : (bkL l bad b).1.length = l.length + (orN (okL b) (lay b)).length := by rw [bkL_eq]; exact List.length_append
    rw [bkT]; omega
theorem wrT_bad : ∀ (t : List Tk), wrT [] true t = ([], true)
  | [] => rfl
  | .n z :: t => by
    have : wrN [] true z = ([], true) := by unfold wrN; cases okN z <;> rfl
    rw [wrT, this]; exact wrT_bad t
  | .l b :: t => by
    have : wrL [] true b = ([], true) := by unfold wrL; cases okL b <;> rfl
    rw [wrT, this]; exact wrT_bad t
theorem wrT_eq : ∀ (t : List Tk) (l : List Nat), wrT l false t = if okT t then (l ++ enT t, false) else ([], true)
  | [], l => by simp [wrT, okT, enT]
  | .n z :: t, l => by
    have h1 : Tk.ok (.n z) = okN z := rfl
    have h2 : Tk.en (.n z) = num z := rfl
    rw [wrT, okT, enT, h1, h2]
    unfold wrN
    cases okN z
    · simp [wrT_bad]
    · simp [wrT_eq t]
  | .l b :: t, l => by
    have h1 : Tk.ok (.l b) = okL b := rfl
    have h2 : Tk.en (.l b) = lay b := rfl
    rw [wrT, okT, enT, h1, h2]
    unfold wrL
    cases okL b
    · simp [wrT_bad]
    · simp [wrT_eq t]
theorem bkT_flag : ∀ (t : List Tk) (l : List Nat) (bad : Bool), (bkT l bad t).2 = (bad || !okT t)
  | [], l, bad => by simp [bkT, okT]
  | .n z :: t, l, bad => by
    have h1 : Tk.ok (.n z) = okN z := rfl
    rw [bkT, okT, h1, bkT_flag t]
    unfold bkN
    cases okN z <;> simp
  | .l b :: t, l, bad => by
    have h1 : Tk.ok (.l b) = okL b := rfl
    rw [bkT, okT, h1, bkT_flag t]
    unfold bkL
    cases okL b <;> simp
theorem bkT_eq : ∀ (t : List Tk) (l : List Nat) (bad : Bool), okT t = true → bkT l bad t = (l ++ enT t, bad)
  | [], l, bad, _ => by simp [bkT, enT]
  | .n z :: t, l, bad, h => by
    have h1 : Tk.en (.n z) = num z := rfl
    have h2 : okN z = true ∧ okT t = true := by simpa [okT, Tk.ok] using h
    rw [bkT, enT, h1]
    unfold bkN
    rw [if_pos h2.1, bkT_eq t _ _ h2.2, List.append_assoc]
  | .l b :: t, l, bad, h => by
    have h1 : Tk.en (.l b) = lay b := rfl
    have h2 : okL b = true ∧ okT t = true := by simpa [okT, Tk.ok] using h
    rw [bkT, enT, h1]
    unfold bkL
    rw [if_pos h2.1, bkT_eq t _ _ h2.2, List.append_assoc]

/-! A message. -/
structure Mg where
  kd : Int
  fr : Int
  to : Int
  se : Int
  de : Int
  cm : Int
  ep : Int
  hs : List (List Nat × Int)
  id : List Nat
  sz : Int
  so : Int
  ta : Int
  ds : List Int
  ps : List Int
  co : Int
  da : List Nat
def tkZ (z : List Int) : List Tk := z.map .n
def tkH : List (List Nat × Int) → List Tk
  | [] => []
  | h :: t => .l h.1 :: .n h.2 :: tkH t
def tkL (z : List Int) : List Tk := .n (z.length : Int) :: tkZ z
def tkHs (h : List (List Nat × Int)) : List Tk := .n (h.length : Int) :: tkH h
def Mg.tk (m : Mg) : List Tk :=
  tkZ [m.kd, m.fr, m.to, m.se, m.de, m.cm, m.ep] ++ (tkHs m.hs ++ (.l m.id :: (tkZ [m.sz, m.so, m.ta] ++ (tkL m.ds ++ (tkL m.ps ++ [.n m.co, .l m.da])))))
def Mg.en (m : Mg) : List Nat := enT m.tk
def Mg.ok (m : Mg) : Bool := okT m.tk
def Mg.sz' (m : Mg) : Nat := szT m.tk
def Mg.none : Mg := ⟨0, 0, 0, 0, 0, 0, 0, [], [], 0, 0, 0, [], [], 0, []⟩
theorem szZ : ∀ z : List Int, szT (tkZ z) = 4 * z.length
  | [] => rfl
  | x :: z => by
    have := szZ z
    have h3 : szT (tkZ (x :: z)) = 4 + szT (tkZ z) := rfl
    rw [h3, List.length_cons]; omega
theorem szH_lb : ∀ h : List (List Nat × Int), 6 * h.length ≤ szT (tkH h)
  | [] => Nat.le_refl _
  | x :: h => by
    have := szH_lb h
    have h3 : szT (tkH (x :: h)) = x.1.length + 2 + (4 + szT (tkH h)) := rfl
    rw [h3, List.length_cons]; omega
theorem bkNs_tk : ∀ (z : List Int) (l : List Nat) (bad : Bool), bkNs l bad z = bkT l bad (tkZ z)
  | [], _, _ => rfl
  | x :: z, l, bad => by
    show bkNs (bkN l bad x).1 (bkN l bad x).2 z = bkT (bkN l bad x).1 (bkN l bad x).2 (tkZ z)
    exact bkNs_tk z _ _

/-! What is read. -/
structure St where
  l : List Nat
  bad : Bool
  am : Bool
def gN (s : St) : Int × St := ((rdN s.l s.bad).1, ⟨(rdN s.l s.bad).2.1, (rdN s.l s.bad).2.2, s.am⟩)
def gL (s : St) : List Nat × St := ((rdL s.l s.bad).1, ⟨(rdL s.l s.bad).2.1, (rdL s.l s.bad).2.2, s.am⟩)
/-- How many: 0, if they can be none (u: how many bytes there were over k). -/
def gC (u : Nat) (s : St) : Nat × St := if (gN s).1 < 0 ∨ (u : Int) < (gN s).1 then (0, ⟨(gN s).2.l, (gN s).2.bad, true⟩) else ((gN s).1.toNat, (gN s).2)
def gZ : Nat → St → List Int × St
  | 0, s => ([], s)
  | n + 1, s => ((gN s).1 :: (gZ n (gN s).2).1, (gZ n (gN s).2).2)
def gH : Nat → St → List (List Nat × Int) × St
  | 0, s => ([], s)
  | n + 1, s => (((gL s).1, (gN (gL s).2).1) :: (gH n (gN (gL s).2).2).1, (gH n (gN (gL s).2).2).2)
def gZs (t : Nat) (s : St) : List Int × St := gZ (gC (t / 4) s).1 (gC (t / 4) s).2
def gHs (t : Nat) (s : St) : List (List Nat × Int) × St := gH (gC (t / 6) s).1 (gC (t / 6) s).2
theorem gZ_len : ∀ (n : Nat) (s : St), (gZ n s).1.length = n
  | 0, _ => rfl
  | n + 1, s => by rw [gZ, List.length_cons, gZ_len n]
theorem gH_len : ∀ (n : Nat) (s : St), (gH n s).1.length = n
  | 0, _ => rfl
  | n + 1, s => by rw [gH, List.length_cons, gH_len n]
theorem gZ_snoc : ∀ (n : Nat) (s : St), gZ (n + 1) s = ((gZ n s).1 ++ [(gN (gZ n s).2).1], (gN (gZ n s).2).2)
  | 0, s => rfl
  | n + 1, s => by
    rw [gZ, gZ_snoc n (gN s).2]
    rfl
theorem gH_snoc : ∀ (n : Nat) (s : St), gH (n + 1) s = ((gH n s).1 ++ [((gL (gH n s).2).1, (gN (gL (gH n s).2).2).1)], (gN (gL (gH n s).2).2).2)
  | 0, s => rfl
  | n + 1, s => by
    rw [gH, gH_snoc n (gN (gL s).2).2]
    rfl
/-- The state behind each of sixteen parts. -/
def q0 (_ : Nat) (l : List Nat) : St := ⟨l, false, false⟩
def q1 (t : Nat) (l : List Nat) : St := (gN (q0 t l)).2
def q2 (t : Nat) (l : List Nat) : St := (gN (q1 t l)).2
def q3 (t : Nat) (l : List Nat) : St := (gN (q2 t l)).2
def q4 (t : Nat) (l : List Nat) : St := (gN (q3 t l)).2
def q5 (t : Nat) (l : List Nat) : St := (gN (q4 t l)).2
def q6 (t : Nat) (l : List Nat) : St := (gN (q5 t l)).2
def q7 (t : Nat) (l : List Nat) : St := (gN (q6 t l)).2
def q8 (t : Nat) (l : List Nat) : St := (gHs t (q7 t l)).2
def q9 (t : Nat) (l : List Nat) : St := (gL (q8 t l)).2
def q10 (t : Nat) (l : List Nat) : St := (gN (q9 t l)).2
def q11 (t : Nat) (l : List Nat) : St := (gN (q10 t l)).2
def q12 (t : Nat) (l : List Nat) : St := (gN (q11 t l)).2
def q13 (t : Nat) (l : List Nat) : St := (gZs t (q12 t l)).2
def q14 (t : Nat) (l : List Nat) : St := (gZs t (q13 t l)).2
def q15 (t : Nat) (l : List Nat) : St := (gN (q14 t l)).2
def q16 (t : Nat) (l : List Nat) : St := (gL (q15 t l)).2
def rdM (t : Nat) (l : List Nat) : Mg :=
  ⟨(gN (q0 t l)).1, (gN (q1 t l)).1, (gN (q2 t l)).1, (gN (q3 t l)).1, (gN (q4 t l)).1, (gN (q5 t l)).1, (gN (q6 t l)).1, (gHs t (q7 t l)).1, (gL (q8 t l)).1, (gN (q9 t l)).1, (gN (q10 t l)).1, (gN (q11 t l)).1,
   (gZs t (q12 t l)).1, (gZs t (q13 t l)).1, (gN (q14 t l)).1, (gL (q15 t l)).1⟩
def rdS (t : Nat) (l : List Nat) : St := q16 t l
/-- Is it all of it, and nothing amiss? -/
def fin (s : St) : Bool := !s.am && (!s.bad && decide (s.l.length = 0))
/-- What is read of bytes. -/
def dec (l : List Nat) : Mg × Bool := if fin (rdS l.length l) then (rdM l.length l, true) else (Mg.none, false)

/-! What was written is read. -/
theorem gN_num {z : Int} (h : okN z = true) (r : List Nat) (am : Bool) : gN ⟨num z ++ r, false, am⟩ = (z, ⟨r, false, am⟩) := by
  unfold gN
  simp only [rdN_num h]
theorem gL_lay {b : List Nat} (h : okL b = true) (r : List Nat) (am : Bool) : gL ⟨lay b ++ r, false, am⟩ = (b, ⟨r, false, am⟩) := by
  unfold gL
  simp only [rdL_lay h]
theorem gC_num {n u : Nat} (h : okN (n : Int) = true) (hu : n ≤ u) (r : List Nat) (am : Bool) : gC u ⟨num (n : Int) ++ r, false, am⟩ = (n, ⟨r, false, am⟩) := by
  unfold gC
  rw [gN_num h, if_neg (by omega)]
  simp
theorem gZ_en : ∀ (z : List Int) (r : List Nat) (am : Bool), okT (tkZ z) = true → gZ z.length ⟨enT (tkZ z) ++ r, false, am⟩ = (z, ⟨r, false, am⟩)
  | [], _, _, _ => rfl
  | x :: z, r, am, h => by
    have h1 : okN x = true ∧ okT (tkZ z) = true := by simpa [tkZ, okT, Tk.ok] using h
    have h2 : enT (tkZ (x :: z)) ++ r = num x ++ (enT (tkZ z) ++ r) := by rw [← List.append_assoc]; rfl
    rw [h2, List.length_cons, gZ, gN_num h1.1, gZ_en z r am h1.2]
theorem gH_en : ∀ (h : List (List Nat × Int)) (r : List Nat) (am : Bool), okT (tkH h) = true → gH h.length ⟨enT (tkH h) ++ r, false, am⟩ = (h, ⟨r, false, am⟩)
  | [], _, _, _ => rfl
  | x :: z, r, am, h => by
    have h1 : okL x.1 = true ∧ okN x.2 = true ∧ okT (tkH z) = true := by simpa [tkH, okT, Tk.ok] using h
    have h2 : enT (tkH (x :: z)) ++ r = lay x.1 ++ (num x.2 ++ (enT (tkH z) ++ r)) := by
      show (lay x.1 ++ (num x.2 ++ enT (tkH z))) ++ r = _
      simp only [List.append_assoc]
    rw [h2, List.length_cons, gH, gL_lay h1.1, gN_num h1.2.1, gH_en z r am h1.2.2]
theorem gZs_en {z : List Int} {t : Nat} (h : okT (tkL z) = true) (ht : szT (tkL z) ≤ t) (r : List Nat) (am : Bool) : gZs t ⟨enT (tkL z) ++ r, false, am⟩ = (z, ⟨r, false, am⟩) := by
  have h1 : okN (z.length : Int) = true ∧ okT (tkZ z) = true := by simpa [tkL, okT, Tk.ok] using h
  have h2 : enT (tkL z) ++ r = num (z.length : Int) ++ (enT (tkZ z) ++ r) := by rw [← List.append_assoc]; rfl
  have h3 : szT (tkL z) = 4 + 4 * z.length := by show 4 + szT (tkZ z) = _; rw [szZ]
  unfold gZs
  rw [h2, gC_num h1.1 (by omega), gZ_en z r am h1.2]
theorem gHs_en {z : List (List Nat × Int)} {t : Nat} (h : okT (tkHs z) = true) (ht : szT (tkHs z) ≤ t) (r : List Nat) (am : Bool) : gHs t ⟨enT (tkHs z) ++ r, false, am⟩ = (z, ⟨r, false, am⟩) := by
  have h1 : okN (z.length : Int) = true ∧ okT (tkH z) = true := by simpa [tkHs, okT, Tk.ok] using h
  have h2 : enT (tkHs z) ++ r = num (z.length : Int) ++ (enT (tkH z) ++ r) := by rw [← List.append_assoc]; rfl
  have h3 : szT (tkHs z) = 4 + szT (tkH z) := rfl
  have h4 := szH_lb z
  unfold gHs
  rw [h2, gC_num h1.1 (by omega), gH_en z r am h1.2]
/-- The parts one by one. -/
theorem Mg.en_eq (m : Mg) (r : List Nat) : m.en ++ r = num m.kd ++ (num m.fr ++ (num m.to ++ (num m.se ++ (num m.de ++ (num m.cm ++ (num m.ep ++ (enT (tkHs m.hs) ++ (lay m.id ++ (num m.sz ++ (num m.so ++ (num m.ta ++ (enT (tkL m.ds) ++ (enT (tkL m.ps) ++ (num m.co ++ (lay m.da ++ r))))))))))))))) := by
  simp [Mg.en, Mg.tk, enT_app, enT, tkZ, Tk.en]
theorem Mg.ok_iff (m : Mg) : m.ok = true ↔ okN m.kd = true ∧ okN m.fr = true ∧ okN m.to = true ∧ okN m.se = true ∧ okN m.de = true ∧ okN m.cm = true ∧ okN m.ep = true ∧ okT (tkHs m.hs) = true ∧ okL m.id = true ∧ okN m.sz = true ∧ okN m.so = true ∧ okN m.ta = true ∧
    okT (tkL m.ds) = true ∧ okT (tkL m.ps) = true ∧ okN m.co = true ∧ okL m.da = true := by
  simp [Mg.ok, Mg.tk, okT_app, okT, tkZ, Tk.ok]
theorem Mg.sz_eq (m : Mg) : m.sz' = 44 + szT (tkHs m.hs) + (m.id.length + 2) + szT (tkL m.ds) + szT (tkL m.ps) + (m.da.length + 2) := by
  simp [Mg.sz', Mg.tk, szT_app, szT, tkZ, Tk.sz]
  omega
theorem Mg.en_len (m : Mg) : m.en.length = m.sz' := enT_len _
theorem sq_en {m : Mg} {t : Nat} (h : m.ok = true) (ht : m.sz' ≤ t) (r : List Nat) : rdM t (m.en ++ r) = m ∧ rdS t (m.en ++ r) = ⟨r, false, false⟩ := by
  obtain ⟨o0, o1, o2, o3, o4, o5, o6, o7, o8, o9, o10, o11, o12, o13, o14, o15⟩ := m.ok_iff.1 h
  rw [m.sz_eq] at ht
  have e := m.en_eq r
  obtain ⟨L, hL⟩ : ∃ L, L = m.en ++ r := ⟨_, rfl⟩
  rw [← hL] at e ⊢
  have e0 : q0 t L = ⟨_, false, false⟩ := congrArg (fun x => (⟨x, false, false⟩ : St)) e
  have g0 := congrArg gN e0
  rw [gN_num o0] at g0
  have e1 : q1 t L = _ := congrArg Prod.snd g0
  have g1 := congrArg gN e1
  rw [gN_num o1] at g1
  have e2 : q2 t L = _ := congrArg Prod.snd g1
  have g2 := congrArg gN e2
  rw [gN_num o2] at g2
  have e3 : q3 t L = _ := congrArg Prod.snd g2
  have g3 := congrArg gN e3
  rw [gN_num o3] at g3
  have e4 : q4 t L = _ := congrArg Prod.snd g3
  have g4 := congrArg gN e4
  rw [gN_num o4] at g4
  have e5 : q5 t L = _ := congrArg Prod.snd g4
  have g5 := congrArg gN e5
  rw [gN_num o5] at g5
  have e6 : q6 t L = _ := congrArg Prod.snd g5
  have g6 := congrArg gN e6
  rw [gN_num o6] at g6
  have e7 : q7 t L = _ := congrArg Prod.snd g6
  have g7 := congrArg (gHs t) e7
  rw [gHs_en o7 (by omega)] at g7
  have e8 : q8 t L = _ := congrArg Prod.snd g7
  have g8 := congrArg gL e8
  rw [gL_lay o8] at g8
  have e9 : q9 t L = _ := congrArg Prod.snd g8
  have g9 := congrArg gN e9
  rw [gN_num o9] at g9
  have e10 : q10 t L = _ := congrArg Prod.snd g9
  have g10 := congrArg gN e10
  rw [gN_num o10] at g10
  have e11 : q11 t L = _ := congrArg Prod.snd g10
  have g11 := congrArg gN e11
  rw [gN_num o11] at g11
  have e12 : q12 t L = _ := congrArg Prod.snd g11
  have g12 := congrArg (gZs t) e12
  rw [gZs_en o12 (by omega)] at g12
  have e13 : q13 t L = _ := congrArg Prod.snd g12
  have g13 := congrArg (gZs t) e13
  rw [gZs_en o13 (by omega)] at g13
  have e14 : q14 t L = _ := congrArg Prod.snd g13
  have g14 := congrArg gN e14
  rw [gN_num o14] at g14
  have e15 : q15 t L = _ := congrArg Prod.snd g14
  have g15 := congrArg gL e15
  rw [gL_lay o15] at g15
  refine ⟨?_, congrArg Prod.snd g15⟩
  unfold rdM
  rw [g0, g1, g2, g3, g4, g5, g6, g7, g8, g9, g10, g11, g12, g13, g14, g15]
theorem dec_en {m : Mg} (h : m.ok = true) : dec m.en = (m, true) := by
  have h1 := sq_en h (t := m.en.length) (by rw [m.en_len]; exact Nat.le_refl _) []
  rw [List.append_nil] at h1
  unfold dec
  rw [h1.1, h1.2, if_pos (by rfl)]
theorem Mg.en_inj {m n : Mg} (h : m.ok = true) (h' : n.ok = true) (e : m.en = n.en) : m = n := by
  have h1 := dec_en h
  rw [e, dec_en h'] at h1
  exact (congrArg Prod.fst h1).symm

/-! What is read was written. -/
theorem two_of : ∀ {l : List Nat}, 2 ≤ l.length → ∃ a b r, l = a :: b :: r
  | [], h => absurd h (by simp)
  | [_], h => absurd h (by simp)
  | a :: b :: r, _ => ⟨a, b, r, rfl⟩
theorem four_of {l : List Nat} (h : 4 ≤ l.length) : ∃ a b c d r, l = a :: b :: c :: d :: r := by
  obtain ⟨a, b, r, rfl⟩ := two_of (l := l) (by omega)
  obtain ⟨c, d, r, rfl⟩ := two_of (l := r) (by simp at h; omega)
  exact ⟨a, b, c, d, r, rfl⟩
theorem rdN_back {l : List Nat} {bad : Bool} (hb : BB l) (h : (rdN l bad).2.2 = false) : bad = false ∧ okN (rdN l bad).1 = true ∧ l = num (rdN l bad).1 ++ (rdN l bad).2.1 := by
  by_cases hh : hasN l
  · have hw := w4_lt hb hh.2
    have e : rdN l bad = ((w4 l : Int) - 2, l.drop 4, bad) := by unfold rdN; rw [if_pos hh]
    rw [e] at h ⊢
    refine ⟨h, okN_iff.2 ⟨by show -2 ≤ (w4 l : Int) - 2; omega, by show (w4 l : Int) - 2 ≤ _; omega⟩, ?_⟩
    show l = num ((w4 l : Int) - 2) ++ l.drop 4
    obtain ⟨a, b, c, d, r, rfl⟩ := four_of hh.1
    have ha : a < 256 := hb a (by simp)
    have hb' : b < 256 := hb b (by simp)
    have hc : c < 256 := hb c (by simp)
    have hd : d < 256 := hb d (by simp)
    have ew : w4 (a :: b :: c :: d :: r) = a * 16777216 + b * 65536 + c * 256 + d := rfl
    have e0 : ((w4 (a :: b :: c :: d :: r) : Int) - 2 + 2).toNat = a * 16777216 + b * 65536 + c * 256 + d := by rw [ew]; omega
    unfold num
    rw [e0]
    show _ = [_, _, _, _] ++ r
    have f0 : (a * 16777216 + b * 65536 + c * 256 + d) / 16777216 % 256 = a := by omega
    have f1 : (a * 16777216 + b * 65536 + c * 256 + d) / 65536 % 256 = b := by omega
    have f2 : (a * 16777216 + b * 65536 + c * 256 + d) / 256 % 256 = c := by omega
    have f3 : (a * 16777216 + b * 65536 + c * 256 + d) % 256 = d := by omega
    rw [f0, f1, f2, f3]
    rfl
  · have e : rdN l bad = (0, [], true) := by unfold rdN; rw [if_neg hh]
    rw [e] at h; cases h
theorem rdL_back {l : List Nat} {bad : Bool} (hb : BB l) (h : (rdL l bad).2.2 = false) : bad = false ∧ okL (rdL l bad).1 = true ∧ l = lay (rdL l bad).1 ++ (rdL l bad).2.1 := by
  by_cases hh : hasL l
  · have hw := w2_lt hb
    have e : rdL l bad = ((l.drop 2).take (w2 l), l.drop (2 + w2 l), bad) := by unfold rdL; rw [if_pos hh]
    have hl : ((l.drop 2).take (w2 l)).length = w2 l := by
      rw [List.length_take, List.length_drop]
      have := hh.2
      omega
    rw [e] at h ⊢
    refine ⟨h, okL_iff.2 (by show ((l.drop 2).take (w2 l)).length ≤ _; omega), ?_⟩
    show l = lay ((l.drop 2).take (w2 l)) ++ l.drop (2 + w2 l)
    obtain ⟨a, b, r, rfl⟩ := two_of hh.1
    have ha : a < 256 := hb a (by simp)
    have hb' : b < 256 := hb b (by simp)
    have ew : w2 (a :: b :: r) = a * 256 + b := rfl
    have hd : (a :: b :: r).drop (2 + w2 (a :: b :: r)) = r.drop (w2 (a :: b :: r)) := by rw [← List.drop_drop]; rfl
    unfold lay
    rw [hl, hd, ew]
    have f0 : (a * 256 + b) / 256 % 256 = a := by omega
    have f1 : (a * 256 + b) % 256 = b := by omega
    rw [f0, f1]
    show _ = a :: b :: (r.take (a * 256 + b) ++ r.drop (a * 256 + b))
    rw [List.take_append_drop]
  · have e : rdL l bad = ([], [], true) := by unfold rdL; rw [if_neg hh]
    rw [e] at h; cases h
/-- What is good behind, was good ahead. -/
structure Gd (s s' : St) (e : List Nat) : Prop where
  bad : s.bad = false
  am : s.am = false
  row : s.l = e ++ s'.l
theorem BB.back {s s' : St} {e : List Nat} (h : BB s.l) (hg : Gd s s' e) : BB s'.l := fun x hx => h x (by rw [hg.row]; exact List.mem_append_right _ hx)
theorem gN_back {s : St} (hb : BB s.l) (h : (gN s).2.bad = false) (ha : (gN s).2.am = false) : Gd s (gN s).2 (num (gN s).1) ∧ okN (gN s).1 = true := by
  obtain ⟨h1, h2, h3⟩ := rdN_back hb h
  exact ⟨⟨h1, ha, h3⟩, h2⟩
theorem gL_back {s : St} (hb : BB s.l) (h : (gL s).2.bad = false) (ha : (gL s).2.am = false) : Gd s (gL s).2 (lay (gL s).1) ∧ okL (gL s).1 = true := by
  obtain ⟨h1, h2, h3⟩ := rdL_back hb h
  exact ⟨⟨h1, ha, h3⟩, h2⟩
theorem gC_back {u : Nat} {s : St} (hb : BB s.l) (h : (gC u s).2.bad = false) (ha : (gC u s).2.am = false) : Gd s (gC u s).2 (num ((gC u s).1 : Int)) ∧ okN ((gC u s).1 : Int) = true := by
  unfold gC at h ha ⊢
  split at h
  · rename_i hc; rw [if_pos hc] at ha; cases ha
  · rename_i hc
    rw [if_neg hc] at ha ⊢
    obtain ⟨h1, h2⟩ := gN_back hb h ha
    have e : (((gN s).1.toNat : Nat) : Int) = (gN s).1 := by omega
    show Gd s (gN s).2 (num (((gN s).1.toNat : Nat) : Int)) ∧ okN (((gN s).1.toNat : Nat) : Int) = true
    rw [e]
    exact ⟨h1, h2⟩
theorem rdN_rest (l : List Nat) (bad : Bool) {x : Nat} (hx : x ∈ (rdN l bad).2.1) : x ∈ l := by
  unfold rdN at hx
  split at hx
  · exact List.mem_of_mem_drop hx
  · cases hx
theorem rdL_rest (l : List Nat) (bad : Bool) {x : Nat} (hx : x ∈ (rdL l bad).2.1) : x ∈ l := by
  unfold rdL at hx
  split at hx
  · exact List.mem_of_mem_drop hx
  · cases hx
theorem rdL_mem (l : List Nat) (bad : Bool) {x : Nat} (hx : x ∈ (rdL l bad).1) : x ∈ l := by
  unfold rdL at hx
  split at hx
  · exact List.mem_of_mem_drop (List.mem_of_mem_take hx)
  · cases hx
theorem gN_bb {s : St} (h : BB s.l) : BB (gN s).2.l := fun x hx => h x (rdN_rest _ _ hx)
theorem gL_bb {s : St} (h : BB s.l) : BB (gL s).2.l := fun x hx => h x (rdL_rest _ _ hx)
theorem gL_bb' {s : St} (h : BB s.l) : BB (gL s).1 := fun x hx => h x (rdL_mem _ _ hx)
theorem gC_bb {u : Nat} {s : St} (h : BB s.l) : BB (gC u s).2.l := by
  unfold gC
  split
  · exact gN_bb h
  · exact gN_bb h
theorem gZ_bb : ∀ (n : Nat) (s : St), BB s.l → BB (gZ n s).2.l
  | 0, _, h => h
  | n + 1, _, h => gZ_bb n _ (gN_bb h)
theorem gH_bb : ∀ (n : Nat) (s : St), BB s.l → BB (gH n s).2.l ∧ ∀ x ∈ (gH n s).1, BB x.1
  | 0, _, h => ⟨h, fun _ hx => by cases hx⟩
  | n + 1, s, h => by
    have h2 := gH_bb n (gN (gL s).2).2 (gN_bb (gL_bb h))
    refine ⟨h2.1, fun x hx => ?_⟩
    rw [gH] at hx
    rcases List.mem_cons.1 hx with rfl | hx
    · exact gL_bb' h
    · exact h2.2 x hx
theorem gZ_back : ∀ (n : Nat) (s : St), BB s.l → (gZ n s).2.bad = false → (gZ n s).2.am = false → Gd s (gZ n s).2 (enT (tkZ (gZ n s).1)) ∧ okT (tkZ (gZ n s).1) = true
  | 0, _, _, h, ha => ⟨⟨h, ha, rfl⟩, rfl⟩
  | n + 1, s, hb, h, ha => by
    obtain ⟨h1, h2⟩ := gZ_back n (gN s).2 (gN_bb hb) h ha
    obtain ⟨h3, h4⟩ := gN_back hb h1.bad h1.am
    refine ⟨⟨h3.bad, h3.am, ?_⟩, ?_⟩
    · show s.l = (num (gN s).1 ++ enT (tkZ (gZ n (gN s).2).1)) ++ (gZ n (gN s).2).2.l
      rw [List.append_assoc, ← h1.row, ← h3.row]
    · show (okN (gN s).1 && okT (tkZ (gZ n (gN s).2).1)) = true
      rw [h2, h4]; rfl
theorem gH_back : ∀ (n : Nat) (s : St), BB s.l → (gH n s).2.bad = false → (gH n s).2.am = false → Gd s (gH n s).2 (enT (tkH (gH n s).1)) ∧ okT (tkH (gH n s).1) = true
  | 0, _, _, h, ha => ⟨⟨h, ha, rfl⟩, rfl⟩
  | n + 1, s, hb, h, ha => by
    obtain ⟨h1, h2⟩ := gH_back n (gN (gL s).2).2 (gN_bb (gL_bb hb)) h ha
    obtain ⟨h3, h4⟩ := gN_back (gL_bb hb) h1.bad h1.am
    obtain ⟨h5, h6⟩ := gL_back hb h3.bad h3.am
    refine ⟨⟨h5.bad, h5.am, ?_⟩, ?_⟩
    · show s.l = (lay (gL s).1 ++ (num (gN (gL s).2).1 ++ enT (tkH (gH n (gN (gL s).2).2).1))) ++ (gH n (gN (gL s).2).2).2.l
      rw [List.append_assoc, List.append_assoc, ← h1.row, ← h3.row, ← h5.row]
    · show (okL (gL s).1 && (okN (gN (gL s).2).1 && okT (tkH (gH n (gN (gL s).2).2).1))) = true
      rw [h2, h4, h6]; rfl
theorem gZs_back {t : Nat} {s : St} (hb : BB s.l) (h : (gZs t s).2.bad = false) (ha : (gZs t s).2.am = false) : Gd s (gZs t s).2 (enT (tkL (gZs t s).1)) ∧ okT (tkL (gZs t s).1) = true := by
  obtain ⟨h1, h2⟩ := gZ_back _ _ (gC_bb hb) h ha
  obtain ⟨h3, h4⟩ := gC_back hb h1.bad h1.am
  have hl : (gZs t s).1.length = (gC (t / 4) s).1 := gZ_len _ _
  refine ⟨⟨h3.bad, h3.am, ?_⟩, ?_⟩
  · show s.l = (num ((gZs t s).1.length : Int) ++ enT (tkZ (gZs t s).1)) ++ (gZs t s).2.l
    rw [hl, List.append_assoc]
    exact h3.row.trans (by rw [h1.row]; rfl)
  · show (okN ((gZs t s).1.length : Int) && okT (tkZ (gZs t s).1)) = true
    rw [hl, h4]; exact h2
theorem gHs_back {t : Nat} {s : St} (hb : BB s.l) (h : (gHs t s).2.bad = false) (ha : (gHs t s).2.am = false) : Gd s (gHs t s).2 (enT (tkHs (gHs t s).1)) ∧ okT (tkHs (gHs t s).1) = true := by
  obtain ⟨h1, h2⟩ := gH_back _ _ (gC_bb hb) h ha
  obtain ⟨h3, h4⟩ := gC_back hb h1.bad h1.am
  have hl : (gHs t s).1.length = (gC (t / 6) s).1 := gH_len _ _
  refine ⟨⟨h3.bad, h3.am, ?_⟩, ?_⟩
  · show s.l = (num ((gHs t s).1.length : Int) ++ enT (tkH (gHs t s).1)) ++ (gHs t s).2.l
    rw [hl, List.append_assoc]
    exact h3.row.trans (by rw [h1.row]; rfl)
  · show (okN ((gHs t s).1.length : Int) && okT (tkH (gHs t s).1)) = true
    rw [hl, h4]; exact h2
theorem gZs_bb {t : Nat} {s : St} (h : BB s.l) : BB (gZs t s).2.l := gZ_bb _ _ (gC_bb h)
theorem gHs_bb {t : Nat} {s : St} (h : BB s.l) : BB (gHs t s).2.l := (gH_bb _ _ (gC_bb h)).1
theorem q0_bb (t : Nat) {l : List Nat} (h : BB l) : BB (q0 t l).l := h
theorem q1_bb (t : Nat) {l : List Nat} (h : BB l) : BB (q1 t l).l := gN_bb (q0_bb t h)
theorem q2_bb (t : Nat) {l : List Nat} (h : BB l) : BB (q2 t l).l := gN_bb (q1_bb t h)
theorem q3_bb (t : Nat) {l : List Nat} (h : BB l) : BB (q3 t l).l := gN_bb (q2_bb t h)
theorem q4_bb (t : Nat) {l : List Nat} (h : BB l) : BB (q4 t l).l := gN_bb (q3_bb t h)
theorem q5_bb (t : Nat) {l : List Nat} (h : BB l) : BB (q5 t l).l := gN_bb (q4_bb t h)
theorem q6_bb (t : Nat) {l : List Nat} (h : BB l) : BB (q6 t l).l := gN_bb (q5_bb t h)
theorem q7_bb (t : Nat) {l : List Nat} (h : BB l) : BB (q7 t l).l := gN_bb (q6_bb t h)
theorem q8_eq (t : Nat) (l : List Nat) : q8 t l = (gHs t (q7 t l)).2 := rfl
theorem q8_bb (t : Nat) {l : List Nat} (h : BB l) : BB (q8 t l).l := by rw [q8_eq]; exact gHs_bb (q7_bb t h)
theorem q9_bb (t : Nat) {l : List Nat} (h : BB l) : BB (q9 t l).l := gL_bb (q8_bb t h)
theorem q10_bb (t : Nat) {l : List Nat} (h : BB l) : BB (q10 t l).l := gN_bb (q9_bb t h)
theorem q11_bb (t : Nat) {l : List Nat} (h : BB l) : BB (q11 t l).l := gN_bb (q10_bb t h)
theorem q12_bb (t : Nat) {l : List Nat} (h : BB l) : BB (q12 t l).l := gN_bb (q11_bb t h)
theorem q13_eq (t : Nat) (l : List Nat) : q13 t l = (gZs t (q12 t l)).2 := rfl
theorem q13_bb (t : Nat) {l : List Nat} (h : BB l) : BB (q13 t l).l := by rw [q13_eq]; exact gZs_bb (q12_bb t h)
theorem q14_eq (t : Nat) (l : List Nat) : q14 t l = (gZs t (q13 t l)).2 := rfl
theorem q14_bb (t : Nat) {l : List Nat} (h : BB l) : BB (q14 t l).l := by rw [q14_eq]; exact gZs_bb (q13_bb t h)
theorem q15_bb (t : Nat) {l : List Nat} (h : BB l) : BB (q15 t l).l := gN_bb (q14_bb t h)
theorem q16_bb (t : Nat) {l : List Nat} (h : BB l) : BB (q16 t l).l := gL_bb (q15_bb t h)
theorem rd_back {t : Nat} {l : List Nat} (hb : BB l) (h : (rdS t l).bad = false) (ha : (rdS t l).am = false) : (rdM t l).ok = true ∧ l = (rdM t l).en ++ (rdS t l).l := by
  obtain ⟨g15, o15⟩ := gL_back (s := q15 t l) (q15_bb t hb) h ha
  obtain ⟨g14, o14⟩ := gN_back (s := q14 t l) (q14_bb t hb) g15.bad g15.am
  obtain ⟨g13, o13⟩ := gZs_back (t := t) (s := q13 t l) (q13_bb t hb) (by rw [← q14_eq]; exact g14.bad) (by rw [← q14_eq]; exact g14.am)
  obtain ⟨g12, o12⟩ := gZs_back (t := t) (s := q12 t l) (q12_bb t hb) (by rw [← q13_eq]; exact g13.bad) (by rw [← q13_eq]; exact g13.am)
  obtain ⟨g11, o11⟩ := gN_back (s := q11 t l) (q11_bb t hb) g12.bad g12.am
  obtain ⟨g10, o10⟩ := gN_back (s := q10 t l) (q10_bb t hb) g11.bad g11.am
  obtain ⟨g9, o9⟩ := gN_back (s := q9 t l) (q9_bb t hb) g10.bad g10.am
  obtain ⟨g8, o8⟩ := gL_back (s := q8 t l) (q8_bb t hb) g9.bad g9.am
  obtain ⟨g7, o7⟩ := gHs_back (t := t) (s := q7 t l) (q7_bb t hb) (by rw [← q8_eq]; exact g8.bad) (by rw [← q8_eq]; exact g8.am)
  obtain ⟨g6, o6⟩ := gN_back (s := q6 t l) (q6_bb t hb) g7.bad g7.am
  obtain ⟨g5, o5⟩ := gN_back (s := q5 t l) (q5_bb t hb) g6.bad g6.am
  obtain ⟨g4, o4⟩ := gN_back (s := q4 t l) (q4_bb t hb) g5.bad g5.am
  obtain ⟨g3, o3⟩ := gN_back (s := q3 t l) (q3_bb t hb) g4.bad g4.am
  obtain ⟨g2, o2⟩ := gN_back (s := q2 t l) (q2_bb t hb) g3.bad g3.am
  obtain ⟨g1, o1⟩ := gN_back (s := q1 t l) (q1_bb t hb) g2.bad g2.am
  obtain ⟨g0, o0⟩ := gN_back (s := q0 t l) (q0_bb t hb) g1.bad g1.am
  refine ⟨by rw [Mg.ok_iff]; simp only [rdM]; exact ⟨o0, o1, o2, o3, o4, o5, o6, o7, o8, o9, o10, o11, o12, o13, o14, o15⟩, ?_⟩
  rw [(rdM t l).en_eq]
  have e15 : (q15 t l).l = lay (rdM t l).da ++ (rdS t l).l := by
    rw [show rdS t l = (gL (q15 t l)).2 from rfl]
    simp only [rdM]
    exact g15.row
  have e14 : (q14 t l).l = num (rdM t l).co ++ (q15 t l).l := by
    rw [show q15 t l = (gN (q14 t l)).2 from rfl]
    simp only [rdM]
    exact g14.row
  have e13 : (q13 t l).l = enT (tkL (rdM t l).ps) ++ (q14 t l).l := by
    rw [show q14 t l = (gZs t (q13 t l)).2 from rfl]
    simp only [rdM]
    exact g13.row
  have e12 : (q12 t l).l = enT (tkL (rdM t l).ds) ++ (q13 t l).l := by
    rw [show q13 t l = (gZs t (q12 t l)).2 from rfl]
    simp only [rdM]
    exact g12.row
  have e11 : (q11 t l).l = num (rdM t l).ta ++ (q12 t l).l := by
    rw [show q12 t l = (gN (q11 t l)).2 from rfl]
    simp only [rdM]
    exact g11.row
  have e10 : (q10 t l).l = num (rdM t l).so ++ (q11 t l).l := by
    rw [show q11 t l = (gN (q10 t l)).2 from rfl]
    simp only [rdM]
    exact g10.row
  have e9 : (q9 t l).l = num (rdM t l).sz ++ (q10 t l).l := by
    rw [show q10 t l = (gN (q9 t l)).2 from rfl]
    simp only [rdM]
    exact g9.row
  have e8 : (q8 t l).l = lay (rdM t l).id ++ (q9 t l).l := by
    rw [show q9 t l = (gL (q8 t l)).2 from rfl]
    simp only [rdM]
    exact g8.row
  have e7 : (q7 t l).l = enT (tkHs (rdM t l).hs) ++ (q8 t l).l := by
    rw [show q8 t l = (gHs t (q7 t l)).2 from rfl]
    simp only [rdM]
    exact g7.row
  have e6 : (q6 t l).l = num (rdM t l).ep ++ (q7 t l).l := by
    rw [show q7 t l = (gN (q6 t l)).2 from rfl]
    simp only [rdM]
    exact g6.row
  have e5 : (q5 t l).l = num (rdM t l).cm ++ (q6 t l).l := by
    rw [show q6 t l = (gN (q5 t l)).2 from rfl]
    simp only [rdM]
    exact g5.row
  have e4 : (q4 t l).l = num (rdM t l).de ++ (q5 t l).l := by
    rw [show q5 t l = (gN (q4 t l)).2 from rfl]
    simp only [rdM]
    exact g4.row
  have e3 : (q3 t l).l = num (rdM t l).se ++ (q4 t l).l := by
    rw [show q4 t l = (gN (q3 t l)).2 from rfl]
    simp only [rdM]
    exact g3.row
  have e2 : (q2 t l).l = num (rdM t l).to ++ (q3 t l).l := by
    rw [show q3 t l = (gN (q2 t l)).2 from rfl]
    simp only [rdM]
    exact g2.row
  have e1 : (q1 t l).l = num (rdM t l).fr ++ (q2 t l).l := by
    rw [show q2 t l = (gN (q1 t l)).2 from rfl]
    simp only [rdM]
    exact g1.row
  have e0 : l = num (rdM t l).kd ++ (q1 t l).l := by
    rw [show q1 t l = (gN (q0 t l)).2 from rfl]
    simp only [rdM]
    exact g0.row
  rw [← e15, ← e14, ← e13, ← e12, ← e11, ← e10, ← e9, ← e8, ← e7, ← e6, ← e5, ← e4, ← e3, ← e2, ← e1]
  exact e0
theorem fin_iff (s : St) : fin s = true ↔ s.am = false ∧ s.bad = false ∧ s.l = [] := by
  unfold fin
  cases s.am <;> cases s.bad <;> simp
/-- **Bytes that are read are the bytes of what is read.** -/
theorem dec_back {l : List Nat} {m : Mg} (hb : BB l) (h : dec l = (m, true)) : m.ok = true ∧ m.en = l := by
  unfold dec at h
  split at h
  · rename_i hf
    obtain ⟨h1, h2, h3⟩ := (fin_iff _).1 hf
    injection h with h _
    subst h
    obtain ⟨h4, h5⟩ := rd_back hb h2 h1
    rw [h3, List.append_nil] at h5
    exact ⟨h4, h5.symm⟩
  · injection h with _ h; cases h
/-- Less, or more, is none's. -/
theorem dec_less {m : Mg} (h : m.ok = true) (hb : BB m.en) {l r : List Nat} (e : m.en = l ++ r) (hr : r ≠ []) : (dec l).2 = false := by
  cases hd : (dec l).2 with
  | false => rfl
  | true =>
    exfalso
    have hd2 : dec l = ((dec l).1, true) := by rw [← hd]
    have hbl : BB l := fun x hx => hb x (by rw [e]; exact List.mem_append_left _ hx)
    obtain ⟨h1, h2⟩ := dec_back hbl hd2
    have h3 := sq_en h1 (t := m.en.length) (by rw [← Mg.en_len, h2, e, List.length_append]; omega) r
    have h4 := sq_en h (t := m.en.length) (by rw [m.en_len]; exact Nat.le_refl _) []
    rw [h2, ← e] at h3
    rw [List.append_nil] at h4
    have := h3.2.symm.trans h4.2
    injection this with this
    exact hr this
theorem dec_more {m : Mg} (h : m.ok = true) {r : List Nat} (hr : r ≠ []) : (dec (m.en ++ r)).2 = false := by
  have h1 := sq_en h (t := (m.en ++ r).length) (by rw [← Mg.en_len, List.length_append]; omega) r
  unfold dec
  rw [h1.2, if_neg]
  intro hf
  exact hr ((fin_iff _).1 hf).2.2
theorem none_ok : Mg.none.ok = true := by decide
theorem none_len : Mg.none.en.length = 60 := by decide
theorem sz_lb (m : Mg) : 60 ≤ m.sz' := by
  have h1 := m.sz_eq
  have h2 : szT (tkHs m.hs) = 4 + szT (tkH m.hs) := rfl
  have h3 : szT (tkL m.ds) = 4 + szT (tkZ m.ds) := rfl
  have h4 : szT (tkL m.ps) = 4 + szT (tkZ m.ps) := rfl
  omega
end Gw
