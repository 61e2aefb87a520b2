import Derived.RangeFuncNested
import Derived.RangeFuncBound
import Derived.RangeFuncCalls
import Derived.RangeFuncLeaves
import Derived.Shelf.Abstract
import Derived.Shelf.RegionOpen
import Derived.WalkKit
import Derived.OwnWalkIn
import Derived.TacticsInMore
import Derived.LoopNIn
import Derived.LoopIn
import Derived.WalkSpells
import Derived.WalkLawsBesides
import Derived.Laws.BitsAllLaws
import Derived.Lib.SlicesCompact
import Derived.Test.YtgikgnhpplmljaaProg
import Derived.Test.YtgikgnhpplmljaaJ1
import Derived.Test.YtgikgnhpplmljaaJ2
import Derived.Test.YtgikgnhpplmljaaJ3
import Derived.Test.YtgikgnhpplmljaaJ4
import Derived.Test.YtgikgnhpplmljaaJ5
section
/- Documents out of shares, of which some may be wrong, in numbers: what is found, and that it is alone; whatever order shares come in; what shares of a document make again. -/
namespace Pol
open Go.Proofs.Ytgikgnhpplmljaa
/-- Column c of R rows. -/
def colR (l : Nat → List Nat) (R c : Nat) : List Nat := (List.range R).map fun i => co (l i) c
theorem colR_len (l : Nat → List Nat) (R c : Nat) : (colR l R c).length = R := by simp [colR]
theorem colR_at {l : Nat → List Nat} {R c i : Nat} (hi : i < R) : co (colR l R c) i = co (l i) c := by simp [co, colR, hi]
theorem colR_bb {l : Nat → List Nat} {R : Nat} (h : ∀ i, i < R → BB (l i)) (c : Nat) : BB (colR l R c) := fun x hx => by
  obtain ⟨i, hi, rfl⟩ := List.mem_map.1 hx
  exact (h i (List.mem_range.1 hi)).co c
/-- Shares are enough. -/
structure Eno (n t k e : Nat) (C : Int) (z : List Int) (R : Nat) (l : Nat → List Nat) : Prop where
  len : z.length = R
  many : t + k + e ≤ z.length
  c0 : 0 ≤ C
  inn : ∀ x ∈ z, 0 ≤ x ∧ x < (n : Int)
  un : z.Nodup
  rows : ∀ i, i < R → ((l i).length : Int) = C
theorem Eno.xs_un {n t k e : Nat} {C : Int} {z : List Int} {R : Nat} {l : Nat → List Nat} (h : Eno n t k e C z R l) (hn : n ≤ 254) : (xsL z).Nodup := by
  refine List.Pairwise.map _ (fun a b hab => hab) ?_
  refine List.Pairwise.imp_of_mem (fun {a b} ha hb hne => ?_) h.un
  have h1 := h.inn a ha
  have h2 := h.inn b hb
  intro he
  exact hne (by omega)
theorem xsL_at {z : List Int} {n i : Nat} (h : ∀ x ∈ z, 0 ≤ x ∧ x < (n : Int)) (hn : n ≤ 254) (hi : i < z.length) : ∃ g : Nat, z.getD i 0 = (g : Int) ∧ g < n ∧ co (xsL z) i = g + 1 := by
  have h1 := h z[i] (List.getElem_mem hi)
  refine ⟨z[i].toNat, by simp [hi]; omega, by omega, ?_⟩
  simp [co, xsL, hi]; omega
/-- Which places are wrong, at once. -/
theorem wrTo_filter (p xs ys : List Nat) (K : Nat) : wrTo p xs ys K = (List.range K).filter fun i => decide (ev (co xs i) p ≠ co ys i) := by
  induction K with
  | zero => rfl
  | succ K ih =>
    rw [List.range_succ, List.filter_append, ← ih]
    have e : wrTo p xs ys (K + 1) = if ev (co xs K) p = co ys K then wrTo p xs ys K else wrTo p xs ys K ++ [K] := rfl
    rw [e]
    by_cases h : ev (co xs K) p = co ys K
    · rw [if_pos h]; simp [h]
    · rw [if_neg h]; simp [h]
theorem wrTo_iff {p xs ys : List Nat} {K i : Nat} : i ∈ wrTo p xs ys K ↔ i < K ∧ ev (co xs i) p ≠ co ys i := by
  rw [wrTo_filter, List.mem_filter, List.mem_range, decide_eq_true_iff]
/-- Agreed on of column c. -/
def Agc (t k e : Nat) (z : List Int) (R : Nat) (l : Nat → List Nat) (c : Nat) (p : List Nat) : Prop := Agd (xsL z) (colR l R c) ((t : Int) + (k : Int) - 1) (e : Int) p
/-- What is found. -/
structure Fnd (n t k e C : Nat) (z : List Int) (R : Nat) (l P : Nat → List Nat) : Prop where
  eno : Eno n t k e C z R l
  agd : ∀ c, c < C → Agc t k e z R l c (P c)
theorem Fnd.alone {n t k e C : Nat} {z : List Int} {R : Nat} {l P Q : Nat → List Nat} (h : Fnd n t k e C z R l P) (h' : Fnd n t k e C z R l Q) {c : Nat} (hc : c < C) : P c = Q c := (h.agd c hc).alone (xsL_bb z) (h'.agd c hc)
/-- Nothing is found. -/
def Fno (n t k e : Nat) (C : Int) (z : List Int) (R : Nat) (l : Nat → List Nat) : Prop := ¬ Eno n t k e C z R l ∨ ∃ c : Nat, (c : Int) < C ∧ ∀ p, ¬ Agc t k e z R l c p
theorem Fnd.not {n t k e C : Nat} {z : List Int} {R : Nat} {l P : Nat → List Nat} (h : Fnd n t k e C z R l P) : ¬ Fno n t k e C z R l := by
  rintro (h1 | ⟨c, h1, h2⟩)
  · exact h1 h.eno
  · exact h2 _ (h.agd c (by omega))
/-- Of holder h some byte of the first q columns is not its polynomial's. -/
def badB (z : List Int) (R : Nat) (l P : Nat → List Nat) (q h : Nat) : Bool := (List.range q).any fun c => (List.range R).any fun i => decide (z.getD i 0 = (h : Int)) && decide (ev (co (xsL z) i) (P c) ≠ co (l i) c)
theorem badB_iff {z : List Int} {R : Nat} {l P : Nat → List Nat} {q h : Nat} : badB z R l P q h = true ↔ ∃ c, c < q ∧ ∃ i, i < R ∧ z.getD i 0 = (h : Int) ∧ ev (co (xsL z) i) (P c) ≠ co (l i) c := by
  simp only [badB, List.any_eq_true, List.mem_range, Bool.and_eq_true, decide_eq_true_iff]
/-- The holders of whom something is wrong, rising. -/
def wrongL (n : Nat) (z : List Int) (R : Nat) (l P : Nat → List Nat) (q : Nat) : List Nat := (List.range n).filter (badB z R l P q)
theorem wrongL_congr {n R q : Nat} {z : List Int} {l P Q : Nat → List Nat} (h : ∀ c, c < q → P c = Q c) : wrongL n z R l P q = wrongL n z R l Q q := by
  unfold wrongL
  refine List.filter_congr fun g _ => Bool.eq_iff_iff.2 ?_
  rw [badB_iff, badB_iff]
  constructor
  · rintro ⟨c, hc, i, hi, h1, h2⟩; exact ⟨c, hc, i, hi, h1, by rw [← h c hc]; exact h2⟩
  · rintro ⟨c, hc, i, hi, h1, h2⟩; exact ⟨c, hc, i, hi, h1, by rw [h c hc]; exact h2⟩
theorem wrongL_len (n : Nat) (z : List Int) (R : Nat) (l P : Nat → List Nat) (q : Nat) : (wrongL n z R l P q).length ≤ n := by
  have := List.length_filter_le (badB z R l P q) (List.range n)
  rwa [List.length_range] at this
theorem wrongL_lt {n R q : Nat} {z : List Int} {l P : Nat → List Nat} : ∀ h ∈ wrongL n z R l P q, h < n := fun _ hh => List.mem_range.1 (List.mem_filter.1 hh).1
/-- The document of polynomials. -/
def docL (n k size : Nat) (P : Nat → List Nat) : List Nat := (List.range size).map fun x => ev (n + 1 + x % k) (P (x / k))
theorem docL_len (n k size : Nat) (P : Nat → List Nat) : (docL n k size P).length = size := by simp [docL]
theorem docL_congr {n k size : Nat} {P Q : Nat → List Nat} (hk : 0 < k) (h : ∀ c, c < Sp.cnt size k → P c = Q c) : docL n k size P = docL n k size Q := by
  refine List.map_congr_left fun x hx => ?_
  have hx' := List.mem_range.1 hx
  rw [h (x / k) ((Sp.cnt_lt hk).2 (Nat.lt_of_le_of_lt (Nat.div_mul_le_self x k) hx'))]
theorem shRow_congr {P Q : Nat → List Nat} {C h : Nat} (e : ∀ c, c < C → P c = Q c) : shRow P C h = shRow Q C h :=
  List.map_congr_left fun c hc => by rw [e c (List.mem_range.1 hc)]
/-- A document comes again out of its polynomials. -/
theorem docL_poly {n k t : Nat} {d rnd : List Nat} (hk : 0 < k) (hnk : n + k ≤ 255) (hd : BB d) (hr : BB rnd) : docL n k d.length (polL n k t d rnd) = d := by
  apply List.ext_getElem
  · simp [docL]
  · intro i h1 h2
    have hm := Nat.mod_lt i hk
    simp only [docL, List.getElem_map, List.getElem_range]
    rw [polL_secret hnk hd hr hm, Sp.col_at hm, show i / k * k + i % k = i from by rw [Nat.mul_comm]; exact Nat.div_add_mod i k, co_get h2]
/-- Shares of some holders, whom fr names, of R of whom some are turned: whoever is not turned has polL's values. -/
structure Few (n t k : Nat) (d rnd : List Nat) (C : Nat) (fr : List Nat) (T : Nat → List Nat) : Prop where
  un : fr.Nodup
  inn : ∀ h ∈ fr, h < n
  rows : ∀ h ∈ fr, (T h).length = C
  bb : ∀ h ∈ fr, BB (T h)
/-- Is holder h turned? -/
def trnB (n t k : Nat) (d rnd : List Nat) (C : Nat) (T : Nat → List Nat) (h : Nat) : Bool := decide (T h ≠ shRow (polL n k t d rnd) C h)
def zOf (fr : List Nat) : List Int := fr.map (fun (h : Nat) => (h : Int))
def rOf (fr : List Nat) (T : Nat → List Nat) (i : Nat) : List Nat := T (fr.getD i 0)
section
variable {n t k e C : Nat} {d rnd fr : List Nat} {T : Nat → List Nat}
theorem zOf_len (fr : List Nat) : (zOf fr).length = fr.length := by simp [zOf]
theorem zOf_at {i : Nat} (hi : i < fr.length) : (zOf fr).getD i 0 = (fr.getD i 0 : Nat) := by simp [zOf, hi]
theorem frAt {i : Nat} (hi : i < fr.length) : fr.getD i 0 ∈ fr := by simp [hi]
theorem Few.xs (h : Few n t k d rnd C fr T) (hn : n ≤ 254) {i : Nat} (hi : i < fr.length) : co (xsL (zOf fr)) i = fr.getD i 0 + 1 := by
  obtain ⟨g, h1, _, h3⟩ := xsL_at (z := zOf fr) (n := n) (i := i) (fun x hx => by
    obtain ⟨y, hy, rfl⟩ := List.mem_map.1 hx
    have := h.inn y hy; omega) hn (by rw [zOf_len]; exact hi)
  rw [zOf_at hi] at h1
  rw [h3]; omega
theorem Few.eno (h : Few n t k d rnd C fr T) (hm : t + k + e ≤ fr.length) : Eno n t k e C (zOf fr) fr.length (rOf fr T) :=
  ⟨zOf_len fr, by rw [zOf_len]; exact hm, by omega, fun x hx => by
    obtain ⟨y, hy, rfl⟩ := List.mem_map.1 hx
    have := h.inn y hy; omega, List.Pairwise.map _ (fun a b hab he => hab (by omega)) h.un, fun i hi => by rw [rOf, h.rows _ (frAt hi)]⟩
/-- Where a polynomial's value is not a row's byte, the row is turned. -/
theorem Few.wrong (h : Few n t k d rnd C fr T) (hn : n ≤ 254) {c i : Nat} (hc : c < C) (hi : i < fr.length) (hw : ev (co (xsL (zOf fr)) i) (polL n k t d rnd c) ≠ co (colR (rOf fr T) fr.length c) i) : trnB n t k d rnd C T (fr.getD i 0) = true := by
  rw [h.xs hn hi, colR_at hi, rOf] at hw
  refine decide_eq_true fun he => hw ?_
  rw [he, co_shRow _ hc]
theorem getD_map (fr : List Nat) (f : Nat → Bool) : ((List.range fr.length).filter fun i => f (fr.getD i 0)).length = fr.countP f := by
  rw [← List.countP_eq_length_filter]
  have : fr = (List.range fr.length).map fun i => fr.getD i 0 := by
    apply List.ext_getElem
    · simp
    · intro i h1 h2; simp [h1]
  conv => rhs; rw [this, List.countP_map]
  rfl
theorem Few.wr (h : Few n t k d rnd C fr T) (hn : n ≤ 254) {c : Nat} (hc : c < C) : (wrTo (polL n k t d rnd c) (xsL (zOf fr)) (colR (rOf fr T) fr.length c) fr.length).length ≤ fr.countP (trnB n t k d rnd C T) := by
  rw [wrTo_filter, ← getD_map, ← List.countP_eq_length_filter, ← List.countP_eq_length_filter]
  refine List.countP_mono_left fun _ hi hw => ?_
  rw [decide_eq_true_iff] at hw
  exact h.wrong hn hc (List.mem_range.1 hi) hw
theorem Few.bbR (h : Few n t k d rnd C fr T) : ∀ i, i < fr.length → BB (rOf fr T i) := fun _ hi => h.bb _ (frAt hi)
/-- Enough of them are right. -/
theorem Few.found (h : Few n t k d rnd C fr T) (ht : 1 ≤ t) (hk : 1 ≤ k) (hnk : n + k ≤ 255) (htk : t + k ≤ 255) (he : e ≤ 255) (hlen : C * t ≤ rnd.length) (hfl : fr.length ≤ 255) (hE : fr.countP (trnB n t k d rnd C T) ≤ e) (hR : t + k + e + fr.countP (trnB n t k d rnd C T) ≤ fr.length) :
    Fnd n t k e C (zOf fr) fr.length (rOf fr T) (polL n k t d rnd) := by
  refine ⟨h.eno (by omega), fun c hc => ?_⟩
  have h1 := h.wr (by omega) hc
  have h2 := polL_dg (n := n) (k := k) (d := d) hlen hc
  have hx : (xsL (zOf fr)).length = fr.length := by rw [xsL_len, zOf_len]
  exact ⟨tr_bb (add_bb (timL_bb _ _ _ _) (thr_bb _ _)), tr_tr _, by rw [hx, colR_len], by rw [hx]; exact hfl, (h.eno (e := e) (by omega)).xs_un (by omega), by omega, by omega, by omega, by omega, by omega, by rw [hx]; omega, by rw [hx]; omega⟩
/-- Nothing else is ever found, if no more are turned than may be. -/
theorem Few.never (h : Few n t k d rnd C fr T) (hk : 1 ≤ k) (hnk : n + k ≤ 255) (hlen : C * t ≤ rnd.length) (hE : fr.countP (trnB n t k d rnd C T) ≤ e) {P : Nat → List Nat} (hP : Fnd n t k e C (zOf fr) fr.length (rOf fr T) P) {c : Nat} (hc : c < C) : P c = polL n k t d rnd c := by
  have h1 := h.wr (by omega) hc
  have h2 := polL_dg (n := n) (k := k) (d := d) hlen hc
  have hx : (xsL (zOf fr)).length = fr.length := by rw [xsL_len, zOf_len]
  have hg := hP.agd c hc
  have g1 := wrTo_agr (P c) (xsL (zOf fr)) (colR (rOf fr T) fr.length c) fr.length
  have g2 := wrTo_agr (polL n k t d rnd c) (xsL (zOf fr)) (colR (rOf fr T) fr.length c) fr.length
  have g3 := hg.own
  have g4 := hg.deg
  rw [hx] at g3
  refine agr_alone (D := t + k) (ys := colR (rOf fr T) fr.length c) hg.bb (tr_bb (add_bb (timL_bb _ _ _ _) (thr_bb _ _))) hg.tr_ (tr_tr _) (xsL_bb _) hg.un (by omega) h2 ?_
  rw [hx]; omega
end
end Pol
end
section
/- What the definition's own Enough (package shamrockref11) does: are shares? -/
namespace Pol
open Go.Proofs.Ytgikgnhpplmljaa
/-- The first q places are as they should be. -/
def EnTo (n : Nat) (C : Int) (z : List Int) (l : Nat → List Nat) (q : Nat) : Prop := ∀ i, i < q → 0 ≤ z.getD i 0 ∧ z.getD i 0 < (n : Int) ∧ ((l i).length : Int) = C ∧ ∀ j, j < i → z.getD j 0 ≠ z.getD i 0
theorem EnTo.eno {n t k e R : Nat} {C : Int} {z : List Int} {l : Nat → List Nat} (h : EnTo n C z l z.length) (hl : z.length = R) (hm : t + k + e ≤ z.length) (hC : 0 ≤ C) : Eno n t k e C z R l := by
  refine ⟨hl, hm, hC, fun x hx => ?_, ?_, fun i hi => (h i (by omega)).2.2.1⟩
  · obtain ⟨i, hi, rfl⟩ := List.getElem_of_mem hx
    have := h i hi
    simp [hi] at this
    exact ⟨this.1, this.2.1⟩
  · rw [List.nodup_iff_pairwise_ne, List.pairwise_iff_getElem]
    intro i j hi hj hij
    have := (h j hj).2.2.2 i hij
    simpa [hi, hj] using this
theorem Eno.at_ {n t k e R : Nat} {C : Int} {z : List Int} {l : Nat → List Nat} (h : Eno n t k e C z R l) : EnTo n C z l R := fun i hi => by
  have hi' : i < z.length := by have := h.len; omega
  have h1 := h.inn z[i] (List.getElem_mem hi')
  refine ⟨by simp [hi']; exact h1.1, by simp [hi']; exact h1.2, h.rows i hi, fun j hj => ?_⟩
  have h2 := h.un
  rw [List.nodup_iff_pairwise_ne, List.pairwise_iff_getElem] at h2
  have := h2 j i (by omega) hi' hj
  simpa [hi', show j < z.length by omega] using this
end Pol
namespace Go.Proofs.Ytgikgnhpplmljaa
open Go.RowKit Go.Shelf Gw Pol
def EnO (w1 : World) (n : Nat) (C : Int) (z : List Int) (l : Nat → List Nat) (i : Value) (wr : World) : Prop := ∃ q m : Nat, q ≤ z.length ∧ i = .int .i64 (q : Int) ∧ EnTo n C z l q ∧ wr = w1.drewN m
def EnI (w1 : World) (z : List Int) (q : Nat) (i : Value) (wr : World) : Prop := ∃ j m : Nat, j ≤ q ∧ i = .int .i64 (j : Int) ∧ (∀ a, a < j → z.getD a 0 ≠ z.getD q 0) ∧ wr = w1.drewN m
def EnAns (n t k e R : Nat) (C : Int) (z : List Int) (l : Nat → List Nat) (w : World) (en : Ending) (w' : World) : Prop := ∃ b : Bool, en = .returned (.bool b) ∧ (b = true ↔ Eno n t k e C z R l) ∧ Below w.heap.size w w'
set_option maxRecDepth 100000 in
set_option maxHeartbeats 4000000 in
theorem renough_any (n t k e R : Nat) (Q : Int) (htk : t + k ≤ 255) (he : e ≤ 255) (C : Int) (A A' : Option Addr) (cA cR N : Nat) (z : List Int) (hN : N = z.length) (pa : Nat → Option Addr) (cp : Nat → Nat) (l : Nat → List Nat) (w : World) (hI : InZ w w.heap.size A cA z) (hM : MIn w w.heap.size A' cR R pa cp l) (hNb : N ≤ 17592186043904) (hRb : R ≤ 17592186043904) :
    Calls Try.prog 31 #[pv (n : Int) (t : Int) (k : Int) (e : Int) Q, .int .i64 C, .slice A N cA, .slice A' R cR] w (EnAns n t k e R C z l w) := by
  obtain ⟨w1, hw1⟩ : ∃ w1, w1 = w.alloc (.cells #[.int .i64 (n : Int), .int .i64 (t : Int), .int .i64 (k : Int), .int .i64 (e : Int), .int .i64 Q] 23) := ⟨_, rfl⟩
  have hb1 : Below w.heap.size w w1 := by rw [hw1]; exact (Below.refl _ w).alloc (Nat.le_refl _) _
  have HPB : Hid (Pbx w1 w.heap.size n t k e Q) := Lib.hid (by rw [hw1]; exact Pbx.new w _ _ _ _ _ _)
  have HB1 := Lib.hid hb1
  have HN := Lib.hid hN
  clear hb1
  by_cases hlen : N = R
  rotate_left
  · have hne : ((N : Int) != (R : Int)) = true := by simp; omega
    have HF := Lib.hid (show ¬ Eno n t k e C z R l from fun h => hlen (by rw [HN.out]; exact h.len))
    clear hlen hN
    go_enter Try.func31, Try.ntmps31
    go_wp2
    rw [← hw1]
    go_ret
    exact ⟨false, rfl, ⟨fun h => (by cases h), fun h => absurd h HF.out⟩, HB1.out⟩
  subst hlen
  obtain ⟨s, hs⟩ : ∃ s, s = t + k := ⟨_, rfl⟩
  obtain ⟨m, hm⟩ : ∃ m, m = s + e := ⟨_, rfl⟩
  have e1 : (t : Int) + (k : Int) = (s : Int) := by omega
  have e2 : (s : Int) + (e : Int) = (m : Int) := by omega
  by_cases hmany : N < m
  · have HF := Lib.hid (show ¬ Eno n t k e C z N l from fun h => by have := h.many; omega)
    have hmi : (N : Int) < (m : Int) := by omega
    obtain ⟨c0, c1, c2, c3, c4⟩ := HPB.out
    rw [hw1] at c0 c1 c2 c3 c4
    clear hN hs hm hmany
    go_enter Try.func31, Try.ntmps31
    go_wp2
    rw [← hw1]
    go_ret
    exact ⟨false, rfl, ⟨fun h => (by cases h), fun h => absurd h HF.out⟩, HB1.out⟩
  have hmi : ¬ ((N : Int) < (m : Int)) := by omega
  by_cases hC0 : C < 0
  · have HF := Lib.hid (show ¬ Eno n t k e C z N l from fun h => by have := h.c0; omega)
    obtain ⟨c0, c1, c2, c3, c4⟩ := HPB.out
    rw [hw1] at c0 c1 c2 c3 c4
    clear hN hs hm hmany
    go_enter Try.func31, Try.ntmps31
    go_wp2
    rw [← hw1]
    go_ret
    exact ⟨false, rfl, ⟨fun h => (by cases h), fun h => absurd h HF.out⟩, HB1.out⟩
  obtain ⟨c0, c1, c2, c3, c4⟩ := HPB.out
  rw [hw1] at c0 c1 c2 c3 c4
  have HMANY := Lib.hid (show t + k + e ≤ N by omega)
  have hcapA := hI.cap
  rw [← hN] at hcapA
  have hcapR := hM.cap
  have hI1 := hI.below HB1.out
  have hM1 := hM.below HB1.out
  clear hN hs hm hmany
  go_enter Try.func31, Try.ntmps31
  go_wp2
  rw [← hw1]
  clear c0 c1 c2 c3 c4 hw1
  go_loopw [9] (EnO w1 n C z l) (fun i _ => N - (intOf i).toNat)
  case atStart => exact ⟨0, 0, Nat.zero_le _, rfl, fun i h => absurd h (by omega), rfl⟩
  case round =>
    obtain ⟨q, d, hq, rfl, hto, rfl⟩ := hrel
    rw [← HN.out] at hq
    by_cases hlt : q < N
    · have hqz : q < z.length := by rw [← HN.out]; exact hlt
      obtain ⟨hwf, b, off, hA, hb, hcell⟩ := hI1.sl q z[q] (List.getElem?_eq_getElem hqz)
      obtain ⟨b2, off2, hA2, hb2, hcell2, hrow⟩ := hM1.rd q hlt
      subst hA hA2
      have hgd : z.getD q 0 = z[q] := by simp [hqz]
      obtain ⟨x, hx⟩ : ∃ x, x = z[q] := ⟨_, rfl⟩
      rw [← hx] at hcell hgd hwf
      obtain ⟨nl, hnl⟩ : ∃ nl, nl = (l q).length := ⟨_, rfl⟩
      rw [← hnl] at hcell2
      have hp := HPB.out.c0
      have hqi : (q : Int) < (N : Int) := by omega
      have HTO := Lib.hid hto
      have HGD := Lib.hid hgd
      have HNL := Lib.hid hnl
      clear hto hgd hx hnl hrow
      by_cases h0 : x < 0
      · have HF := Lib.hid (show ¬ Eno n t k e C z N l from fun h => by have := (h.at_ q hlt).1; rw [HGD.out] at this; omega)
        go_wp2
        go_quiet (fail)
        go_wp2
        go_ret
        exact ⟨false, rfl, ⟨fun h => (by cases h), fun h => absurd h HF.out⟩, Gw.Below.drewN (Gw.Below.drewN HB1.out _) _⟩
      by_cases h1 : (n : Int) ≤ x
      · have HF := Lib.hid (show ¬ Eno n t k e C z N l from fun h => by have := (h.at_ q hlt).2.1; rw [HGD.out] at this; omega)
        go_wp2
        go_quiet (fail)
        go_wp2
        go_ret
        exact ⟨false, rfl, ⟨fun h => (by cases h), fun h => absurd h HF.out⟩, Gw.Below.drewN (Gw.Below.drewN HB1.out _) _⟩
      by_cases h2 : (nl : Int) = C
      rotate_left
      · have HF := Lib.hid (show ¬ Eno n t k e C z N l from fun h => by have := (h.at_ q hlt).2.2.1; rw [← HNL.out] at this; exact h2 this)
        have hne : ((nl : Int) != C) = true := by simp [h2]
        clear h2
        go_wp2
        go_quiet (fail)
        go_wp2
        go_ret
        exact ⟨false, rfl, ⟨fun h => (by cases h), fun h => absurd h HF.out⟩, Gw.Below.drewN (Gw.Below.drewN HB1.out _) _⟩
      have hne : ((nl : Int) != C) = false := by simp [h2]
      have H2 := Lib.hid h2
      clear h2
      go_wp2
      go_quiet (fail)
      go_wp2
      go_loopw [10] (EnI w1 z q) (fun i _ => q - (intOf i).toNat)
      case atStart => exact ⟨0, _, Nat.zero_le _, rfl, fun a h => absurd h (by omega), World.drewN_drewN _ _ _⟩
      case round =>
        obtain ⟨j, d2, hj, rfl, hun, rfl⟩ := hrel
        by_cases hjq : j < q
        · have hjz : j < z.length := by omega
          obtain ⟨hwf3, b3, off3, hA3, hb3, hcell3⟩ := hI1.sl j z[j] (List.getElem?_eq_getElem hjz)
          injection hA3 with hA3
          injection hA3 with e3 e4
          subst e3 e4
          have hgd3 : z.getD j 0 = z[j] := by simp [hjz]
          obtain ⟨y, hy⟩ : ∃ y, y = z[j] := ⟨_, rfl⟩
          rw [← hy] at hcell3 hgd3 hwf3
          have hji : (j : Int) < (N : Int) := by omega
          have HGD3 := Lib.hid hgd3
          have HUN := Lib.hid hun
          clear hgd3 hy hun
          by_cases hxy : y = x
          · subst hxy
            have HF := Lib.hid (show ¬ Eno n t k e C z N l from fun h => (h.at_ q hlt).2.2.2 j hjq (by rw [HGD.out, HGD3.out]))
            go_wp2
            go_quiet (fail)
            go_wp2
            go_ret
            exact ⟨false, rfl, ⟨fun h => (by cases h), fun h => absurd h HF.out⟩, Gw.Below.drewN (Gw.Below.drewN HB1.out _) _⟩
          · have hB : (y == x) = false := beq_eq_false_iff_ne.2 hxy
            go_wp2
            go_quiet (fail)
            go_wp2
            go_roundw
            case rel => exact ⟨j + 1, _, by omega, by go_num, fun a ha => by
              by_cases e : a = j
              · subst e; rw [HGD.out, HGD3.out]; exact hxy
              · exact HUN.out a (by omega), rfl⟩
            case measure => simp [intOf]; omega
        · obtain rfl : j = q := by omega
          have HUN := Lib.hid hun
          clear hun
          go_wp2
          go_roundw
          case rel => exact ⟨j + 1, d2, by rw [← HN.out]; omega, by go_num, fun a ha => by
            by_cases e : a = j
            · subst e; rw [HGD.out]; exact ⟨by omega, by omega, by rw [← HNL.out]; exact H2.out, fun b' hb' => by rw [← HGD.out]; exact HUN.out b' hb'⟩
            · exact HTO.out a (by omega), rfl⟩
          case measure => simp [intOf]; omega
    · obtain rfl : q = N := by omega
      go_wp2
      go_ret
      exact ⟨true, rfl, ⟨fun _ => EnTo.eno (by rw [← HN.out]; exact hto) HN.out.symm (by rw [← HN.out]; exact HMANY.out) (by omega), fun _ => rfl⟩, Gw.Below.drewN HB1.out _⟩
end Go.Proofs.Ytgikgnhpplmljaa
end
section
/- deal: Point, Secrets, Points. -/
namespace Go.Proofs.Ytgikgnhpplmljaa
open Go.RowKit Go.Shelf Gw Pol

theorem dpoint_any (x : Int) (y : Nat) (hy : y = ((x + 1) % 256).toNat) (w : World) :
    Calls Try.prog 41 #[.int .i64 x] w fun e w' => e = .returned (.int .u8 (y : Int)) ∧ w' = w := by
  obtain ⟨z, hz⟩ : ∃ z : Nat, z = (x % 256).toNat := ⟨_, rfl⟩
  have e1 : IntKind.u8.wrap x = (z : Int) := by rw [IntKind.wrap_u8]; omega
  have e2 : IntKind.u8.wrap ((z : Int) + 1) = (y : Int) := by rw [IntKind.wrap_u8]; omega
  have hzb : z < 256 := by omega
  clear hz hy
  go_enter Try.func41, Try.ntmps41
  go_wp2
  go_ret
  exact ⟨rfl, rfl⟩
theorem dpoint_nat (x y : Nat) (h1 : x ≤ 254) (hy : y = x + 1) (w : World) :
    Calls Try.prog 41 #[.int .i64 (x : Int)] w fun e w' => e = .returned (.int .u8 (y : Int)) ∧ w' = w := dpoint_any x y (by omega) w
theorem dpoint_zero (w : World) : Calls Try.prog 41 #[.int .i64 0] w fun e w' => e = .returned (.int .u8 1) ∧ Below w.heap.size w w' :=
  (dpoint_any 0 1 (by omega) w).mono fun e w' h => ⟨h.1, by rw [h.2]; exact Below.refl _ _⟩

/-- A row whose first q bytes are written. -/
def fp (f : Nat → Nat) (k q : Nat) : List Nat := (List.range k).map fun i => if i < q then f i else 0
theorem fp_len (f : Nat → Nat) (k q : Nat) : (fp f k q).length = k := by simp [fp]
theorem fp_zero (f : Nat → Nat) (k : Nat) : fp f k 0 = List.replicate k 0 := by
  apply List.ext_getElem
  · simp [fp]
  · intro i h1 h2; simp [fp]
theorem fp_all (f : Nat → Nat) (k : Nat) : fp f k k = (List.range k).map f := by
  unfold fp
  refine List.map_congr_left fun i hi => ?_
  rw [if_pos (List.mem_range.1 hi)]
theorem fp_set {f : Nat → Nat} {k q y : Nat} (hy : y = f q) : (fp f k q).set q y = fp f k (q + 1) := by
  subst hy
  apply List.ext_getElem
  · simp [fp]
  · intro j h1 h2
    simp only [fp, List.getElem_set, List.getElem_map, List.getElem_range]
    by_cases hj : q = j
    · subst hj; simp
    · rw [if_neg hj]
      by_cases h3 : j < q
      · rw [if_pos h3, if_pos (by omega)]
      · rw [if_neg h3, if_neg (by omega)]
def FpRel (w : World) (g b : Nat) (f : Nat → Nat) (k : Nat) (v : Value) (i : Value) (wr : World) : Prop :=
  ∃ q : Nat, q ≤ k ∧ i = .int .i64 (q : Int) ∧ Gw.Own wr g 5 (some ⟨g, 0, none⟩) k (fp f k q) ∧ Below w.heap.size w wr ∧ wr.cell? ⟨b, 0, none⟩ = some v
set_option maxRecDepth 100000 in
set_option maxHeartbeats 1000000 in
theorem dsec_in (n k : Nat) (T E R : Int) (h : n + k ≤ 255) (w : World) :
    Calls Try.prog 37 #[pv n T k E R] w fun e w' => ∃ A c, e = .returned (.slice A k c) ∧ Gw.Own w' w.heap.size 5 A c (secL n k) ∧ Below w.heap.size w w' := by
  have hmk := run_make_row' (P := Try.prog) 36 5 (.int .u8 0) 1 Try.underlying36 pbyte_info rfl .i64 .i64 k (by omega) (by omega)
  obtain ⟨w0, hw0⟩ : ∃ w0, w0 = w.alloc (.cells #[.int .i64 (n : Int), .int .i64 T, .int .i64 (k : Int), .int .i64 E, .int .i64 R] 23) := ⟨_, rfl⟩
  have hs0 : w0.heap.size = w.heap.size + 1 := by rw [hw0]; simp
  have hb0 : Below w.heap.size w w0 := by rw [hw0]; exact (Below.refl _ w).alloc (Nat.le_refl _) _
  have hc0 : w0.cell? ⟨w.heap.size, 0, none⟩ = some (.int .i64 (n : Int)) := by rw [hw0]; exact World.cell?_alloc_new w _ _ 0
  have hO := Own.made w0 5 k (by omega)
  rw [← fp_zero (fun i => n + 1 + i) k, hs0] at hO
  have hc1 : (w0.alloc (.cells (madeCells #[.int .u8 0] k) 5)).cell? ⟨w.heap.size, 0, none⟩ = some (.int .i64 (n : Int)) := (World.cell?_alloc_lt w0 _ ⟨w.heap.size, 0, none⟩ (by show w.heap.size < _; omega)).trans hc0
  have hb1 : Below w.heap.size w (w0.alloc (.cells (madeCells #[.int .u8 0] k) 5)) := hb0.alloc (by omega) _
  go_enter Try.func37, Try.ntmps37
  go_wp2
  rw [← hw0]
  clear hmk hc0 hb0 hw0
  go_loopw [10] (FpRel w (w.heap.size + 1) w.heap.size (fun i => n + 1 + i) k (.int .i64 (n : Int))) (fun i _ => k - (intOf i).toNat)
  case atStart => exact ⟨0, Nat.zero_le _, rfl, hO, hb1, hc1⟩
  case round =>
    clear hO hb1 hc1
    obtain ⟨q, hq, rfl, hown, hbr, hcn⟩ := hrel
    by_cases hlt : q < k
    · have hc := hown.cell (k := q) (by rw [fp_len]; exact hlt)
      have hf := hown.frozen q
      obtain ⟨x, hx⟩ : ∃ x, x = n + q := ⟨_, rfl⟩
      have e1 : (n : Int) + (q : Int) = (x : Int) := by omega
      obtain ⟨y, hy⟩ : ∃ y, y = x + 1 := ⟨_, rfl⟩
      have HP := Lib.hid (dpoint_nat x y (by omega) hy wr)
      have HO := Lib.hid (hown.put (k := q) (by rw [fp_len]; exact hlt) (y := y) (by omega))
      rw [fp_set (f := fun i => n + 1 + i) (by show y = n + 1 + q; omega)] at HO
      have HB := Lib.hid (hbr.setCell (p := ⟨w.heap.size + 1, q, none⟩) (by show w.heap.size ≤ w.heap.size + 1; omega) (.int .u8 (y : Int)))
      have HC := Lib.hid (show (wr.setCell ⟨w.heap.size + 1, q, none⟩ (.int .u8 (y : Int))).cell? ⟨w.heap.size, 0, none⟩ = some (.int .i64 (n : Int)) by rw [World.cell?_setCell_other _ _ _ _ (fun h => by injection h with h1; omega)]; exact hcn)
      have hxb : x ≤ 254 := by omega
      clear hown hx hy
      go_wp2_with fail
      refine HP.out.mono ?_
      rintro e _ ⟨rfl, rfl⟩
      go_wp2
      go_roundw
      case rel => exact ⟨q + 1, by omega, by go_num, HO.out, HB.out, HC.out⟩
      case measure => simp [intOf]; omega
    · obtain rfl : q = k := by omega
      rw [fp_all] at hown
      have HO := Lib.hid (hown.base (base' := w.heap.size) (by omega))
      clear hown
      go_wp2
      go_ret
      exact ⟨_, _, rfl, HO.out, hbr⟩

def zpts (z : List Int) (i : Nat) : Nat := ((z.getD i 0 + 1) % 256).toNat
theorem zpts_all (z : List Int) : (List.range z.length).map (zpts z) = xsL z := by
  apply List.ext_getElem
  · simp [xsL]
  · intro i h1 h2
    have : i < z.length := by simpa using h1
    simp [xsL, zpts, this]
set_option maxRecDepth 100000 in
set_option maxHeartbeats 1000000 in
theorem dpoints_in (A : Option Addr) (c N : Nat) (z : List Int) (hN : N = z.length) (P0 P1 P2 P3 P4 : Int) (w : World) (hI : InZ w w.heap.size A c z) (hz : ∀ x ∈ z, 0 ≤ x ∧ x ≤ 300) (hNb : N ≤ 17592186043904) :
    Calls Try.prog 25 #[pv P0 P1 P2 P3 P4, .slice A N c] w fun e w' => ∃ A2 c2, e = .returned (.slice A2 N c2) ∧ In w' w'.heap.size A2 c2 (xsL z) ∧ Below w.heap.size w w' := by
  have hmk := run_make_row' (P := Try.prog) 36 5 (.int .u8 0) 1 Try.underlying36 pbyte_info rfl .i64 .i64 N (by omega) (by omega)
  have hcap := hI.cap
  rw [← hN] at hcap
  have HN := Lib.hid hN
  clear hN
  obtain ⟨w0, hw0⟩ : ∃ w0, w0 = w.alloc (.cells #[.int .i64 P0, .int .i64 P1, .int .i64 P2, .int .i64 P3, .int .i64 P4] 23) := ⟨_, rfl⟩
  have hs0 : w0.heap.size = w.heap.size + 1 := by rw [hw0]; simp
  have hb0 : Below w.heap.size w w0 := by rw [hw0]; exact (Below.refl _ w).alloc (Nat.le_refl _) _
  have hc0 : w0.cell? ⟨w.heap.size, 0, none⟩ = some (.int .i64 P0) := by rw [hw0]; exact World.cell?_alloc_new w _ _ 0
  have hO := Own.made w0 5 N (by omega)
  rw [← fp_zero (zpts z) N, hs0] at hO
  have hc1 : (w0.alloc (.cells (madeCells #[.int .u8 0] N) 5)).cell? ⟨w.heap.size, 0, none⟩ = some (.int .i64 P0) := (World.cell?_alloc_lt w0 _ ⟨w.heap.size, 0, none⟩ (by show w.heap.size < _; omega)).trans hc0
  have hb1 : Below w.heap.size w (w0.alloc (.cells (madeCells #[.int .u8 0] N) 5)) := hb0.alloc (by omega) _
  go_enter Try.func25, Try.ntmps25
  go_wp2
  rw [← hw0]
  clear hmk hc0 hb0 hw0
  go_loopw [13] (FpRel w (w.heap.size + 1) w.heap.size (zpts z) N (.int .i64 P0)) (fun i _ => N - (intOf i).toNat)
  case atStart => exact ⟨0, Nat.zero_le _, rfl, hO, hb1, hc1⟩
  case round =>
    clear hO hb1 hc1
    obtain ⟨q, hq, rfl, hown, hbr, hcn⟩ := hrel
    by_cases hlt : q < N
    · have hc := hown.cell (k := q) (by rw [fp_len]; exact hlt)
      have hf := hown.frozen q
      have hqz : q < z.length := by rw [← HN.out]; exact hlt
      obtain ⟨hwf, b, off, hA, hbl, hcell⟩ := (hI.below hbr).sl q z[q] (List.getElem?_eq_getElem hqz)
      subst hA
      have hzq := hz z[q] (List.getElem_mem hqz)
      have hpt : zpts z q = ((z[q] + 1) % 256).toNat := by simp [zpts, hqz]
      obtain ⟨x, hx⟩ : ∃ x, x = z[q] := ⟨_, rfl⟩
      rw [← hx] at hcell hzq hpt
      obtain ⟨y, hy⟩ : ∃ y, y = ((x + 1) % 256).toNat := ⟨_, rfl⟩
      have hyb : y < 256 := by omega
      have HP := Lib.hid (dpoint_any x y hy wr)
      have HO := Lib.hid (hown.put (k := q) (by rw [fp_len]; exact hlt) (y := y) hyb)
      rw [fp_set (f := zpts z) (by rw [hpt, hy])] at HO
      have HB := Lib.hid (hbr.setCell (p := ⟨w.heap.size + 1, q, none⟩) (by show w.heap.size ≤ w.heap.size + 1; omega) (.int .u8 (y : Int)))
      have HC := Lib.hid (show (wr.setCell ⟨w.heap.size + 1, q, none⟩ (.int .u8 (y : Int))).cell? ⟨w.heap.size, 0, none⟩ = some (.int .i64 P0) by rw [World.cell?_setCell_other _ _ _ _ (fun h => by injection h with h1; omega)]; exact hcn)
      clear hown hx hy hpt hwf hzq
      go_wp2_with fail
      refine HP.out.mono ?_
      rintro e _ ⟨rfl, rfl⟩
      go_wp2
      go_roundw
      case rel => exact ⟨q + 1, by omega, by go_num, HO.out, HB.out, HC.out⟩
      case measure => simp [intOf]; omega
    · obtain rfl : q = N := by omega
      rw [fp_all, HN.out, zpts_all, ← HN.out] at hown
      have HO := Lib.hid hown.inn
      clear hown
      go_wp2
      go_ret
      exact ⟨_, _, rfl, HO.out, hbr⟩
end Go.Proofs.Ytgikgnhpplmljaa
end
section
/- What gf.double and gf.powers do: the double of a byte; the exponents below 255 one by one, each with that power of x + 1. -/
namespace Go.Proofs.Ytgikgnhpplmljaa
open Go.RowKit Go.Shelf
attribute [local go_sem] Oper.semAt_some

theorem dbl_hi : ∀ a : Nat, a < 256 → (bits BinOp.and IntKind.u8 (a : Int) 128 != 0) = true → bits BinOp.xor IntKind.u8 ((a : Int) * 2 % 256) 27 = (Gf.dbl a : Int) := by decide +kernel
theorem dbl_lo : ∀ a : Nat, a < 256 → (bits BinOp.and IntKind.u8 (a : Int) 128 != 0) = false → (a : Int) * 2 % 256 = (Gf.dbl a : Int) := by decide +kernel

theorem ret_int {k : IntKind} {a b : Int} (h : a = b) : Ending.returned (.int k a) = .returned (.int k b) := by rw [h]

set_option maxHeartbeats 400000 in
theorem double_any (a : Nat) (h : a < 256) (w : World) :
    Calls Try.prog 57 #[.int .u8 (a : Int)] w fun e w' => e = .returned (.int .u8 (Gf.dbl a : Int)) ∧ w = w' := by
  go_enter Try.func57, Try.ntmps57
  go_wp2
  · go_ret
    exact ⟨ret_int (dbl_hi a h (by assumption)), rfl⟩
  · go_ret
    exact ⟨ret_int (dbl_lo a h (by assumption)), rfl⟩

abbrev Idx := { i : Nat // i < 255 }
abbrev encs (x : Idx) : Array Value := #[.int .i64 (x.1 : Int), .int .u8 (Gf.pw x.1 : Int)]
def upto (k : Nat) (h : k ≤ 255) : List Idx := (List.range k).attach.map fun x => ⟨x.1, by have := List.mem_range.1 x.2; omega⟩
theorem upto_val (k : Nat) (h : k ≤ 255) : (upto k h).map (fun x => x.1) = List.range k := by simp [upto]
theorem upto_len (k : Nat) (h : k ≤ 255) : (upto k h).length = k := by simp [upto]
theorem upto_succ (k : Nat) (h : k + 1 ≤ 255) : upto (k + 1) h = upto k (by omega) ++ [⟨k, by omega⟩] := by
  have : ∀ l m : List Idx, l.map (fun x => x.1) = m.map (fun x => x.1) → l = m := fun l m e => List.map_inj_right (fun x y => Subtype.ext) |>.1 e
  apply this
  rw [List.map_append, upto_val, upto_val, List.range_succ]; rfl

set_option maxRecDepth 100000 in
set_option maxHeartbeats 1000000 in
/-- The powers come one by one. -/
theorem powers_stops (n : Nat) (hn : 1 ≤ n) (w : World) :
    SeqStopsK Fence.wide n Try.prog 30 #[] encs (fun _ _ => True) (fun xs => xs = upto 255 (Nat.le_refl _)) (fun _ => True) 255 w := fun l J Jx W _ _ _ hY h0 => by
  refine callsIn_of_wp Try.func30 rfl trivial ?_ rfl
  simp only [Try.ntmps30, List.size_toArray, List.length_cons, List.length_nil, Nat.reduceAdd, Nat.reduceSub, Array.replicate_succ, Array.replicate_zero, List.push_toArray, List.append_toArray, List.nil_append, List.cons_append]
  gi_wp2
  gi_loopw [2, 4] (fun p i wr => ∃ k : Nat, ∃ h : k ≤ 255, i = .int .i64 (k : Int) ∧ p = .int .u8 (Gf.pw k : Int) ∧ J (upto k h) wr)
    (fun _ i _ => 255 - (intOf i).toNat)
  case atStart => exact ⟨0, by omega, rfl, rfl, h0⟩
  case round =>
    obtain ⟨k, hk, rfl, rfl, hJs⟩ := hrel
    have hp := Gf.pw_lt k
    by_cases hlt : k < 255
    · obtain ⟨fn, tmps, assign, body, hy, hR⟩ := hY (upto k hk) ⟨k, hlt⟩ wr hJs (by rw [upto_len]; exact hlt)
      dsimp only [encs] at hy
      gi_wp2_with fail
      refine hR.mono ?_
      rintro e W3 (⟨rfl, hJ3, _⟩ | ⟨rfl, hJx3⟩)
      · gi_wp2_with fail
        refine ⟨trivial, ?_⟩
        refine (callsIn_wide.2 (double_any _ hp _)).mono ?_
        rintro e w' ⟨rfl, rfl⟩
        have hxr : bits .xor .u8 (Gf.pw k : Int) (Gf.dbl (Gf.pw k) : Int) = (Gf.pw (k + 1) : Int) := u8_xor_nat _ _ hp (Gf.dbl_lt_small _ hp)
        gi_wp2
        go_roundw
        case rel => exact ⟨k + 1, by omega, by go_num, rfl, by rw [upto_succ]; exact hJ3⟩
        case measure => simp [intOf]; omega
      · gi_wp2
        refine bodyPost_ret (results_none rfl _ _ _) rfl ?_
        exact ⟨⟨_, rfl⟩, .inr ⟨_, trivial, hJx3⟩⟩
    · obtain rfl : k = 255 := by omega
      gi_wp2
      go_end0
      exact ⟨⟨_, rfl⟩, .inl ⟨_, rfl, hJs⟩⟩

/-- What the table of powers, and of logarithms, holds when some exponents have come. -/
def exF (l : List Nat) (j : Nat) : Nat := if j ∈ l then Gf.pw j else 0
def lgF (l : List Nat) (a : Nat) : Nat := l.foldl (fun s i => if a = Gf.pw i then i else s) 0
theorem lgF_snoc (l : List Nat) (i a : Nat) : lgF (l ++ [i]) a = if a = Gf.pw i then i else lgF l a := by simp [lgF]
theorem lgF_range (k a : Nat) : lgF (List.range k) a = Gf.lgTo k a := by
  induction k with
  | zero => rfl
  | succ k ih => rw [List.range_succ, lgF_snoc, ih]; rfl
theorem exF_snoc_same (l : List Nat) (i : Nat) : exF (l ++ [i]) i = Gf.pw i := by simp [exF]
theorem exF_snoc_other (l : List Nat) (i j : Nat) (h : j ≠ i) : exF (l ++ [i]) j = exF l j := by simp [exF, h]

end Go.Proofs.Ytgikgnhpplmljaa
end
section
/- What gf.New does: a field of its own, whose tables hold the powers of x + 1 and their logarithms; nothing else is turned. -/
namespace Go.Proofs.Ytgikgnhpplmljaa
open Go.RowKit Go.Shelf Gw
attribute [local go_sem] Oper.semAt_some

def fieldZero : Array Value := (List.replicate 255 (Value.int .u8 0) ++ List.replicate 256 (Value.int .i64 0)).toArray
theorem zeroField (w : World) : (zeroValue 60).run Try.prog w = .ok (.agg fieldZero) w := by kernel_rfl

def fcell (ex lgf : Nat → Nat) (o : Nat) : Value := if o < 255 then .int .u8 (ex o : Int) else .int .i64 (lgf (o - 255) : Int)
theorem fieldZero_get : ∀ o, o < 511 → fieldZero[o]? = some (fcell (exF []) (lgF []) o) := by
  intro o ho
  unfold fieldZero fcell
  rw [List.getElem?_toArray, List.getElem?_append, List.length_replicate]
  by_cases h : o < 255
  · rw [if_pos h, if_pos h, List.getElem?_replicate, if_pos h]; rfl
  · rw [if_neg h, if_neg h, List.getElem?_replicate, if_pos (by omega)]; rfl

def vals (pre : List Idx) : List Nat := pre.map (fun x => x.1)
theorem vals_snoc (pre : List Idx) (x : Idx) : vals (pre ++ [x]) = vals pre ++ [x.1] := by simp [vals]
theorem vals_all : vals (upto 255 (Nat.le_refl _)) = List.range 255 := upto_val 255 _
theorem fcell_step (l : List Nat) (i o : Nat) (hi : i < 255) : (if o = 255 + Gf.pw i then Value.int .i64 (i : Int) else if o = i then Value.int .u8 (Gf.pw i : Int) else fcell (exF l) (lgF l) o) = fcell (exF (l ++ [i])) (lgF (l ++ [i])) o := by
  by_cases h1 : o = 255 + Gf.pw i
  · subst h1; rw [if_pos rfl]; unfold fcell; rw [if_neg (by omega), Nat.add_sub_cancel_left, lgF_snoc, if_pos rfl]
  · rw [if_neg h1]
    by_cases h2 : o = i
    · subst h2; rw [if_pos rfl]; unfold fcell; rw [if_pos hi, exF_snoc_same]
    · rw [if_neg h2]; unfold fcell
      by_cases h3 : o < 255
      · rw [if_pos h3, if_pos h3, exF_snoc_other _ _ _ h2]
      · rw [if_neg h3, if_neg h3, lgF_snoc, if_neg (by omega)]
theorem fcell_all (o : Nat) : fcell (exF (List.range 255)) (lgF (List.range 255)) o = fcell Gf.pw Gf.lg o := by
  unfold fcell
  by_cases h : o < 255
  · rw [if_pos h, if_pos h, exF, if_pos (List.mem_range.2 h)]
  · rw [if_neg h, if_neg h, lgF_range]; rfl

set_option maxRecDepth 100000 in
set_option maxHeartbeats 1000000 in
theorem new_in (w : World) :
    CallsIn Fence.wide 5 Try.prog 11 #[] w fun e w' => e = .returned (.pointer (some ⟨w.heap.size, 0, none⟩)) ∧ Row w' w.heap.size 511 (fcell Gf.pw Gf.lg) ∧ Below w.heap.size w w' := by
  refine callsIn_of_wp_marks Try.func11 rfl trivial ?_ rfl
  simp only [Try.ntmps11, List.size_toArray, List.length_nil, Nat.reduceSub, Array.replicate_succ, Array.replicate_zero, List.push_toArray, List.append_toArray, List.nil_append, List.cons_append]
  have hzF := zeroField
  gi_wp2
  clear hzF
  have hB0 : Below w.heap.size w ((w.alloc (.cells fieldZero 60)).alloc (.cells #[.pointer (some ⟨w.heap.size, 0, none⟩)] 30)) := ((Below.refl _ w).alloc (Nat.le_refl _) _).alloc (by simp) _
  have hr0 := Row.new w fieldZero 60 511 _ fieldZero_get
  have hc0 := cell_new (w.alloc (.cells fieldZero 60)) (.pointer (some ⟨w.heap.size, 0, none⟩)) 30
  rw [World.size_alloc] at hc0
  refine wpIn_rangeFunc_ownF rfl (by omega) (gf := 30) (lb := #[]) rfl trivial (enters_of Try.func30 (by kernel_rfl) rfl)
    (powers_stops (5 - 1) (by omega) _) (fun _ _ => trivial) (fun _ _ _ _ _ _ _ _ => trivial) (Below.refl _ _) (fun _ => rfl)
    (fun pre W => (Row W w.heap.size 511 (fcell (exF (vals pre)) (lgF (vals pre))) ∧ W.cell? ⟨w.heap.size + 1, 0, none⟩ = some (.pointer (some ⟨w.heap.size, 0, none⟩))) ∧ Below w.heap.size w W)
    (fun _ _ _ => False)
    (OwnFrom.and (Own.from (fun s A B row hs hg hr => ⟨Row.own _ _ (fun pre : List Idx => fcell (exF (vals pre)) (lgF (vals pre))) s A B row hs.1 hg hr, cell_kept hs.2 hg hr⟩) _) (ownFrom_below (Nat.le_refl _) (by simp; omega)))
    (fun _ _ _ _ _ hs _ _ => hs)
    ⟨⟨hr0.below ((Below.refl _ _).alloc (Nat.le_refl _) _) (by simp), hc0⟩, hB0⟩
    (fun x => { tmps := #[.pointer none, .pointer (some ⟨w.heap.size + 1, 0, none⟩), .int .i64 (x.1 : Int), .int .u8 (Gf.pw x.1 : Int), .agg fieldZero, .pointer (some ⟨w.heap.size, 0, none⟩), .int .i64 (x.1 : Int), .int .u8 (Gf.pw x.1 : Int), undef, undef, undef, undef, undef, undef, undef, undef, undef, undef, undef, undef, undef], defers := [] }) ?assign ?body ?done ?stop
  case assign =>
    intro l x W K hK
    gi_wp2
    exact hK
  case body =>
    rintro l pre ⟨i, hi⟩ W ⟨⟨hr, hc⟩, hB⟩ _
    have hp := Gf.pw_lt i
    have c1 := (hr i (by omega)).1
    have f1 := (hr i (by omega)).2
    have hr2 := hr.set (o := i) (by omega) (.int .u8 (Gf.pw i : Int))
    have c2 := (hr2 (255 + Gf.pw i) (by omega)).1
    have f2 := (hr2 (255 + Gf.pw i) (by omega)).2
    have hr3 := Lib.hid ((hr2.set (o := 255 + Gf.pw i) (by omega) (.int .i64 (i : Int))).congr (fun o _ => fcell_step (vals pre) i o hi))
    clear hr2 hr
    dsimp only
    gi_wp2
    refine ⟨(KeepsOthers.setCell _ _ _).trans (KeepsOthers.setCell _ _ _), trivial, ⟨?_, ?_⟩, (hB.setCell (p := ⟨w.heap.size, i, none⟩) (Nat.le_refl _) _).setCell (p := ⟨w.heap.size, 255 + Gf.pw i, none⟩) (Nat.le_refl _) _⟩
    · rw [vals_snoc]; exact hr3.out
    · rw [World.cell?_setCell_other _ _ _ _ (fun h => by injection h with h1; omega), World.cell?_setCell_other _ _ _ _ (fun h => by injection h with h1; omega)]; exact hc
  case done =>
    rintro D xs W hD rfl ⟨⟨hr, hc⟩, hB⟩ hK
    gi_wp2
    refine ⟨by simp, .inl ⟨_, _, rfl, run_takeDeferred hK, ?_⟩⟩
    have hb2 : Below w.heap.size W (W.putObj D (.deferred none)) := belowK_b (w := w) (Nat.le_refl _) W D _ _ (by simp at hD; omega) hK rfl rfl
    refine ⟨_, results_tmp rfl _ _ _, rfl, ?_, hB.trans hb2⟩
    rw [vals_all] at hr
    intro o ho
    have h1 := hr o ho
    have hg := grownBy_putObj' W D (.deferred none)
    have hx : ∀ r, some D = some r → ∃ o : Obj, W.heap[r]? = some o ∧ o.isCells = false := fun r e => by cases e; exact ⟨_, hK, rfl⟩
    rw [← fcell_all o]
    exact ⟨cell_kept h1.1 hg hx, (frozen_kept h1.1 hg hx).trans h1.2⟩
  case stop =>
    rintro D c pre W _ _ h _
    exact h.elim

/-- Block b is a field that New made. -/
def IsField (W : World) (b : Nat) : Prop := Row W b 511 (fcell Gf.pw Gf.lg)
theorem IsField.ex {W : World} {b : Nat} (h : IsField W b) {i : Nat} (hi : i < 255) : W.cell? ⟨b, i, none⟩ = some (.int .u8 (Gf.pw i : Int)) := by
  have := (h i (by omega)).1; rwa [fcell, if_pos hi] at this
theorem IsField.lg {W : World} {b : Nat} (h : IsField W b) {a : Nat} (ha : a < 256) : W.cell? ⟨b, 255 + a, none⟩ = some (.int .i64 (Gf.lg a : Int)) := by
  have := (h (255 + a) (by omega)).1; rwa [fcell, if_neg (by omega), Nat.add_sub_cancel_left] at this
theorem IsField.lt {W : World} {b : Nat} (h : IsField W b) : b < W.heap.size := by
  have := (h 0 (by omega)).1
  unfold World.cell? at this
  split at this
  · rename_i hb; exact (Array.getElem?_eq_some_iff.1 hb).1
  · cases this
theorem IsField.below {W W' : World} {b B : Nat} (h : IsField W b) (hb : Below B W W') (hB : b < B) : IsField W' b := Row.below h hb hB
theorem IsField.drewN {W : World} {b : Nat} (h : IsField W b) (k : Nat) : IsField (W.drewN k) b := h

theorem new_any (w : World) : Calls Try.prog 11 #[] w fun e w' => e = .returned (.pointer (some ⟨w.heap.size, 0, none⟩)) ∧ IsField w' w.heap.size ∧ Below w.heap.size w w' :=
  callsIn_wide.1 (new_in w)
end Go.Proofs.Ytgikgnhpplmljaa
end
section
/- Who is wrong, in numbers: holders put down column by column, then sorted, then each once. -/
namespace Pol
open Go.Proofs.Ytgikgnhpplmljaa Go.Lib
/-- Sorted lists without repeats of the same numbers are one. -/
theorem strict_eq : ∀ {a b : List Int}, a.Pairwise (· < ·) → b.Pairwise (· < ·) → (∀ x, x ∈ a ↔ x ∈ b) → a = b
  | [], [], _, _, _ => rfl
  | [], y :: b, _, _, h => absurd ((h y).2 (by simp)) (by simp)
  | x :: a, [], _, _, h => absurd ((h x).1 (by simp)) (by simp)
  | x :: a, y :: b, ha, hb, h => by
    rw [List.pairwise_cons] at ha hb
    have hxy : x = y := by
      have h1 := (h x).1 (by simp)
      have h2 := (h y).2 (by simp)
      rw [List.mem_cons] at h1 h2
      rcases h1 with h1 | h1
      · exact h1
      · rcases h2 with h2 | h2
        · exact h2.symm
        · have := hb.1 x h1; have := ha.1 y h2; omega
    subst hxy
    rw [strict_eq ha.2 hb.2 fun z => ?_]
    constructor
    · intro hz
      have h1 := (h z).1 (List.mem_cons_of_mem _ hz)
      rcases List.mem_cons.1 h1 with h2 | h2
      · have := ha.1 z hz; omega
      · exact h2
    · intro hz
      have h1 := (h z).2 (List.mem_cons_of_mem _ hz)
      rcases List.mem_cons.1 h1 with h2 | h2
      · have := hb.1 z hz; omega
      · exact h2
/-- What is left of a sorted list: rising, and the same numbers. -/
theorem compactUpTo_sorted (d : Array Int) (hs : ∀ i j, i ≤ j → j < d.size → d[i]! ≤ d[j]!) : ∀ m, m ≤ d.size → (compactUpTo d m).Pairwise (· < ·) ∧ ∀ x, x ∈ compactUpTo d m ↔ ∃ j, j < m ∧ d[j]! = x
  | 0, _ => ⟨by simp [compactUpTo], fun x => by simp [compactUpTo]⟩
  | m + 1, hm => by
    obtain ⟨h1, h2⟩ := compactUpTo_sorted d hs m (by omega)
    rw [compactUpTo_succ]
    by_cases hk : keeps d m = true
    · rw [if_pos hk]
      constructor
      · rw [List.pairwise_append]
        refine ⟨h1, by simp, fun x hx y hy => ?_⟩
        obtain rfl : y = d[m]! := by simpa using hy
        obtain ⟨j, hj, rfl⟩ := (h2 x).1 hx
        have hk' := of_decide_eq_true hk
        have a1 := hs j (m - 1) (by omega) (by omega)
        have a2 := hs (m - 1) m (by omega) (by omega)
        rcases hk' with h0 | h0
        · omega
        · omega
      · intro x
        rw [List.mem_append, h2 x]
        constructor
        · rintro (⟨j, hj, e⟩ | h)
          · exact ⟨j, by omega, e⟩
          · exact ⟨m, by omega, by simpa using Eq.symm (by simpa using h)⟩
        · rintro ⟨j, hj, e⟩
          by_cases hjm : j = m
          · subst hjm; exact .inr (by simp [e])
          · exact .inl ⟨j, by omega, e⟩
    · rw [if_neg hk, List.append_nil]
      refine ⟨h1, fun x => ?_⟩
      have hk' : ¬ (m = 0 ∨ d[m]! ≠ d[m - 1]!) := fun h => hk (decide_eq_true h)
      rw [h2 x]
      constructor
      · rintro ⟨j, hj, e⟩; exact ⟨j, by omega, e⟩
      · rintro ⟨j, hj, e⟩
        by_cases hjm : j = m
        · subst hjm
          refine ⟨j - 1, by omega, ?_⟩
          have : d[j]! = d[j - 1]! := Classical.not_not.1 fun h => hk' (.inr h)
          rw [← this]; exact e
        · exact ⟨j, by omega, e⟩
theorem compact_sorted {zs : List Int} (hs : zs.Pairwise (· ≤ ·)) : (compact zs).Pairwise (· < ·) ∧ ∀ x, x ∈ compact zs ↔ x ∈ zs := by
  have h := compactUpTo_sorted zs.toArray (fun i j hij hj => by
    have hj' : j < zs.length := by simpa using hj
    have e1 : zs.toArray[i]! = zs[i] := by simp [show i < zs.length by omega]
    have e2 : zs.toArray[j]! = zs[j] := by simp [hj']
    rw [e1, e2]
    by_cases e : i = j
    · subst e; exact Int.le_refl _
    · exact List.pairwise_iff_getElem.1 hs i j (by omega) hj' (by omega)) zs.length (by simp)
  refine ⟨h.1, fun x => (h.2 x).trans ?_⟩
  constructor
  · rintro ⟨j, hj, e⟩
    have : zs.toArray[j]! = zs[j] := by simp [hj]
    rw [← e, this]; exact List.getElem_mem hj
  · intro hx
    obtain ⟨j, hj, e⟩ := List.getElem_of_mem hx
    exact ⟨j, hj, by simp [hj, e]⟩
/-- The holders of some places. -/
def wal (z : List Int) (W : List Nat) : List Nat := W.map fun i => (z.getD i 0).toNat
theorem wal_len (z : List Int) (W : List Nat) : (wal z W).length = W.length := by simp [wal]
theorem wal_one (z : List Int) (W : List Nat) (i : Nat) : wal z (W ++ [i]) = wal z W ++ [(z.getD i 0).toNat] := by simp [wal]
/-- All that is put down, of the first q columns. -/
def appL (z : List Int) (R : Nat) (l P : Nat → List Nat) : Nat → List Nat
  | 0 => []
  | q + 1 => appL z R l P q ++ wal z (wrTo (P q) (xsL z) (colR l R q) (xsL z).length)
theorem appL_len {z : List Int} {R : Nat} {l P : Nat → List Nat} (q : Nat) : (appL z R l P q).length ≤ q * z.length := by
  induction q with
  | zero => simp [appL]
  | succ q ih =>
    have h := wrTo_agr (P q) (xsL z) (colR l R q) (xsL z).length
    rw [xsL_len] at h
    rw [appL, List.length_append, wal_len, Nat.succ_mul, xsL_len]
    omega
theorem appL_mem {n R : Nat} {z : List Int} {l P : Nat → List Nat} (hz : z.length = R) (hin : ∀ x ∈ z, 0 ≤ x ∧ x < (n : Int)) (q h : Nat) : h ∈ appL z R l P q ↔ h < n ∧ badB z R l P q h = true := by
  have hx : (xsL z).length = R := by rw [xsL_len, hz]
  induction q with
  | zero => simp [appL, badB]
  | succ q ih =>
    rw [badB_iff] at ih
    rw [appL, List.mem_append, badB_iff]
    refine (or_congr ih Iff.rfl).trans ?_
    constructor
    · rintro (⟨h1, c, hc, hi⟩ | h1)
      · exact ⟨h1, c, by omega, hi⟩
      · obtain ⟨i, hi, e⟩ := List.mem_map.1 h1
        rw [wrTo_iff, hx] at hi
        have hzi := hin z[i] (List.getElem_mem (by omega))
        have hgd : z.getD i 0 = z[i] := by simp [show i < z.length by omega]
        rw [hgd] at e
        exact ⟨by omega, q, by omega, i, hi.1, by rw [hgd]; omega, by rw [← colR_at hi.1]; exact hi.2⟩
    · rintro ⟨h1, c, hc, i, hi, e, hw⟩
      by_cases hcq : c = q
      · subst hcq
        exact .inr (List.mem_map.2 ⟨i, by rw [wrTo_iff, hx, colR_at hi]; exact ⟨hi, hw⟩, by rw [e]; omega⟩)
      · exact .inl ⟨h1, c, by omega, i, hi, e, hw⟩
def ints (L : List Nat) : List Int := L.map fun (h : Nat) => (h : Int)
theorem ints_len (L : List Nat) : (ints L).length = L.length := by simp [ints]
theorem ints_mem {L : List Nat} {x : Int} : x ∈ ints L ↔ 0 ≤ x ∧ x.toNat ∈ L := by
  unfold ints
  rw [List.mem_map]
  constructor
  · rintro ⟨h, hh, rfl⟩; exact ⟨by omega, by simpa using hh⟩
  · rintro ⟨h0, h1⟩; exact ⟨x.toNat, h1, by omega⟩
/-- Sorted, each once: just those of whom something is wrong. -/
theorem compact_wrong {n R : Nat} {z : List Int} {l P : Nat → List Nat} (hz : z.length = R) (hin : ∀ x ∈ z, 0 ≤ x ∧ x < (n : Int)) (q : Nat) :
    compact ((ints (appL z R l P q)).mergeSort fun x y => decide (x ≤ y)) = ints (wrongL n z R l P q) := by
  have hs : ((ints (appL z R l P q)).mergeSort fun x y => decide (x ≤ y)).Pairwise (· ≤ ·) := by
    refine (List.pairwise_mergeSort (le := fun (x y : Int) => decide (x ≤ y)) (fun a b c h1 h2 => ?_) (fun a b => ?_) _).imp fun {a b} h => of_decide_eq_true h
    · have := of_decide_eq_true h1; have := of_decide_eq_true h2; exact decide_eq_true (by omega)
    · rw [Bool.or_eq_true]; rcases Int.le_total a b with h | h
      · exact .inl (decide_eq_true h)
      · exact .inr (decide_eq_true h)
  obtain ⟨h1, h2⟩ := compact_sorted hs
  refine strict_eq h1 ?_ fun x => ?_
  · unfold ints wrongL
    refine List.Pairwise.map _ (fun a b h => ?_) (List.Pairwise.filter _ List.pairwise_lt_range)
    omega
  · rw [h2 x, List.mem_mergeSort, ints_mem, ints_mem, appL_mem hz hin]
    unfold wrongL
    rw [List.mem_filter, List.mem_range]
end Pol
end
section
/- Rows of ints: made by the call, and read. -/
namespace Gw
open Go Go.RowKit Go.Shelf
def intv (L : List Nat) : List Value := L.map (fun (x : Nat) => Value.int .i64 (x : Int))
theorem intv_len (L : List Nat) : (intv L).length = L.length := by simp [intv]
theorem intv_app (L M : List Nat) : intv (L ++ M) = intv L ++ intv M := by simp [intv]
theorem intv_one (L : List Nat) : ∀ u ∈ intv L, u.oneCell' = true := fun u hu => by
  obtain ⟨x, _, rfl⟩ := List.mem_map.1 hu; rfl
/-- A row of ints that is read. -/
structure InJ (w : World) (A : Option Addr) (c : Nat) (L : List Nat) : Prop where
  sl : ∀ (i x : Nat), L[i]? = some x → ∃ b off, A = some ⟨b, off, none⟩ ∧ w.cell? ⟨b, off + i, none⟩ = some (.int .i64 (x : Int))
  cap : L.length ≤ c
  none_ : A = none → c = 0
/-- A row of ints of the call's own. -/
def OwnJ (w : World) (base : Nat) (e : TypeId) (A : Option Addr) (c : Nat) (L : List Nat) : Prop := w.ownsRow base e 1 (.slice A L.length c) L.length (intv L)
section
variable {w w' : World} {base c : Nat} {e : TypeId} {A : Option Addr} {L : List Nat}
theorem InJ.below (h : InJ w A c L) (hb : Below w.heap.size w w') : InJ w' A c L := ⟨fun i x hx => by
  obtain ⟨b, off, h1, h2⟩ := h.sl i x hx
  exact ⟨b, off, h1, (hb.cell (p := ⟨b, off + i, none⟩) (cell_lt h2)).trans h2⟩, h.cap, h.none_⟩
theorem InJ.drewN (h : InJ w A c L) (n : Nat) : InJ (w.drewN n) A c L := ⟨h.sl, h.cap, h.none_⟩
theorem InJ.at_ (h : InJ w A c L) {k : Nat} (hk : k < L.length) : ∃ x b off, L[k]? = some x ∧ A = some ⟨b, off, none⟩ ∧ w.cell? ⟨b, off + k, none⟩ = some (.int .i64 (x : Int)) := by
  obtain ⟨b, off, h1, h2⟩ := h.sl k L[k] (List.getElem?_eq_getElem hk)
  exact ⟨L[k], b, off, List.getElem?_eq_getElem hk, h1, h2⟩
theorem OwnJ.mk' {v : Value} {n : Nat} (h : w.ownsRow base e 1 v n (intv L)) : ∃ A c, v = .slice A L.length c ∧ OwnJ w base e A c L := by
  have hn : n = L.length := by have := h.1; rw [intv_len] at this; omega
  subst hn
  rcases h.2 with ⟨hv, h0⟩ | ⟨g, cap, cur, hv, _⟩
  · subst hv; exact ⟨none, 0, by rw [h0], by unfold OwnJ; rw [h0] at h ⊢; exact h⟩
  · subst hv; exact ⟨_, cap, rfl, h⟩
theorem OwnJ.nil (w : World) (base : Nat) (e : TypeId) : OwnJ w base e none 0 [] := World.ownsRow_nil w base e 1
theorem OwnJ.alloc (h : OwnJ w base e A c L) (o : Obj) : OwnJ (w.alloc o) base e A c L := World.ownsRow.alloc h o
theorem OwnJ.drewN (h : OwnJ w base e A c L) (n : Nat) : OwnJ (w.drewN n) base e A c L := h
theorem OwnJ.rebase {base' : Nat} (h : OwnJ w base e A c L) (hb : base' ≤ base) : OwnJ w base' e A c L := by
  refine ⟨h.1, ?_⟩
  rcases h.2 with h0 | ⟨g, cap, cur, hv, hg, h0⟩
  · exact .inl h0
  · exact .inr ⟨g, cap, cur, hv, by omega, h0⟩
theorem OwnJ.grown {row : Option Nat} (h : OwnJ w base e A c L) (hg : w.grownBy w' row) (hr : ∀ b cs, base ≤ b → w.heap[b]? = some (.cells cs e (0, 0)) → row ≠ some b) : OwnJ w' base e A c L := by
  refine ⟨h.1, ?_⟩
  rcases h.2 with h0 | ⟨g, cap, cur, hv, hb, hgb, h0⟩
  · exact .inl h0
  · exact .inr ⟨g, cap, cur, hv, hb, (hg.block g (Array.getElem?_eq_some_iff.1 hgb).1 (fun e => hr g cur hb hgb e.symm)).trans hgb, h0⟩
theorem OwnJ.turned {row : Option Nat} (h : OwnJ w base e A c L) (hg : w.grownBy w' row) (hr : ∀ r, row = some r → ∃ o : Obj, w.heap[r]? = some o ∧ o.isCells = false) : OwnJ w' base e A c L :=
  h.grown hg (fun b cs _ h2 e => by obtain ⟨o, h3, h4⟩ := hr b e; rw [h2] at h3; injection h3 with h3; subst h3; cases h4)
theorem OwnJ.kept (h : OwnJ w base e A c L) (hb : Below w.heap.size w w') : OwnJ w' base e A c L :=
  h.grown (row := none) ⟨hb.os, hb.tape, hb.output, hb.size, fun k hk _ => hb.block k hk⟩ (fun _ _ _ _ e => by cases e)
theorem OwnJ.at_ (h : OwnJ w base e A c L) {i l : Nat} (hi : L[i]? = some l) : ∃ g, A = some ⟨g, 0, none⟩ ∧ base ≤ g ∧ w.cell? ⟨g, i, none⟩ = some (.int .i64 (l : Int)) := by
  have hl : i < L.length := (List.getElem?_eq_some_iff.1 hi).1
  rcases h.2 with ⟨_, h0⟩ | ⟨g, cap, cur, hv, hb, _⟩
  · omega
  · injection hv with hA hn hc
    subst hA hc
    refine ⟨g, rfl, hb, ?_⟩
    rw [World.ownsRow.cellAt h i (by omega)]
    simp [intv, hi]
theorem OwnJ.inn (h : OwnJ w base e A c L) : InJ w A c L := by
  refine ⟨fun i x hx => ?_, ?_, ?_⟩
  · obtain ⟨g, hA, _, hc⟩ := h.at_ hx
    exact ⟨g, 0, hA, by rw [Nat.zero_add]; exact hc⟩
  · rcases h.2 with ⟨hv, h0⟩ | ⟨g, cap, cur, hv, hb, hg, hnc, hm, hs, ht⟩
    · omega
    · injection hv with hA hn hc; omega
  · intro hA
    rcases h.2 with ⟨hv, h0⟩ | ⟨g, cap, cur, hv, _⟩
    · injection hv
    · injection hv with h1; rw [hA] at h1; cases h1
/-- Behind an append of one number. -/
theorem OwnJ.app {W : World} {v' : Value} {m x : Nat} (hown : w'.ownsRow base e 1 v' (m + 1) (intv L ++ [.int .i64 (x : Int)])) (_ : W = w) : ∃ A' c', v' = .slice A' (L ++ [x]).length c' ∧ OwnJ w' base e A' c' (L ++ [x]) := by
  have : intv L ++ [.int .i64 (x : Int)] = intv (L ++ [x]) := by simp [intv]
  rw [this] at hown
  exact OwnJ.mk' hown
end
/-- The block of a row that is appended to holds cells of the row's type. -/
theorem OwnJ.block {w : World} {base c n : Nat} {e : TypeId} {A : Option Addr} {L : List Nat} (h : OwnJ w base e A c L) {r : Nat} (hr : (Value.slice A n c).ownBlock = some r) : base ≤ r ∧ ∃ cs, w.heap[r]? = some (.cells cs e (0, 0)) := by
  rcases h.2 with ⟨hv, _⟩ | ⟨g, cap, cur, hv, hb, hg, _⟩
  · injection hv with h1 _ h3; subst h1; cases hr
  · injection hv with h1 _ h3
    subst h1
    simp [Value.ownBlock] at hr
    subst hr
    exact ⟨hb, cur, hg⟩
end Gw
namespace Go.Proofs.Ytgikgnhpplmljaa
open Go.RowKit Go.Shelf Gw Pol
theorem pint_info : (Try.prog.info? 3).map (fun i => (i.zero, i.size, i.bytes)) = some (some (.int .i64 0), 1, 8) := by kernel_rfl
end Go.Proofs.Ytgikgnhpplmljaa
end
section
/- Two rows of ints, and a table of rows that are read, which all grow side by side. -/
namespace Gw
open Go Go.RowKit Go.Shelf
/-- The block of a row of one's own: where it begins, and what its cells are. -/
theorem owns_blk {W : World} {base n : Nat} {e : TypeId} {v : Value} {xs : List Value} (h : W.ownsRow base e 1 v n xs) {r : Nat} (hr : v.ownBlock = some r) : base ≤ r ∧ r < W.heap.size ∧ ∃ cs, W.heap[r]? = some (.cells cs e (0, 0)) := by
  rcases h.2 with ⟨hv, _⟩ | ⟨g, cap, cur, hv, hb, hg, _⟩
  · subst hv; cases hr
  · subst hv
    simp [Value.ownBlock] at hr
    subst hr
    exact ⟨hb, (Array.getElem?_eq_some_iff.1 hg).1, cur, hg⟩
theorem owns_by {W W' : World} {base n : Nat} {e : TypeId} {v : Value} {xs : List Value} {row : Option Nat} (h : W.ownsRow base e 1 v n xs) (hg : W.grownBy W' row) (hne : ∀ r, row = some r → v.ownBlock ≠ some r) : W'.ownsRow base e 1 v n xs := by
  refine ⟨h.1, ?_⟩
  rcases h.2 with h0 | ⟨g, cap, cur, hv, hb, hgb, h0⟩
  · exact .inl h0
  · refine .inr ⟨g, cap, cur, hv, hb, (hg.block g (Array.getElem?_eq_some_iff.1 hgb).1 (fun e' => ?_)).trans hgb, h0⟩
    refine hne g e'.symm ?_
    subst hv
    simp [Value.ownBlock]
/-- A row whose block is of another type is not the one that grows. -/
theorem owns_other {W W' : World} {base base' n : Nat} {e e' : TypeId} {v u : Value} {m : Nat} {xs ys : List Value} (h : W.ownsRow base e 1 v n xs) (h' : W.ownsRow base' e' 1 u m ys) (hne : e ≠ e') (hg : W.grownBy W' u.ownBlock) : W'.ownsRow base e 1 v n xs :=
  owns_by h hg fun r hr hv => by
    obtain ⟨_, _, cs, h1⟩ := owns_blk h hv
    obtain ⟨_, _, cs', h2⟩ := owns_blk h' hr
    rw [h1] at h2
    injection h2 with h2
    injection h2 with _ h2
    exact hne h2
/-- A table whose rows are read: those from ahead of B, and such as were made since. -/
structure Shr (W : World) (base B : Nat) (te tb : TypeId) (v : Value) (k : Nat) (pa : Nat → Option Addr) (cp : Nat → Nat) (l : Nat → List Nat) : Prop where
  own : W.ownsRow base te 1 v k (rvl pa cp l k)
  row : ∀ i, i < k → In W B (pa i) (cp i) (l i) ∨ Own W base tb (pa i) (cp i) (l i)
structure Ocs (W : World) (base B : Nat) (e te tb : TypeId) (A : Option Addr) (c : Nat) (L : List Nat) (A' : Option Addr) (c' : Nat) (L' : List Nat) (v : Value) (k : Nat) (pa : Nat → Option Addr) (cp : Nat → Nat) (l : Nat → List Nat) : Prop where
  f : OwnJ W base e A c L
  w : OwnJ W base e A' c' L'
  dis : ∀ g, (Value.slice A L.length c).ownBlock = some g → (Value.slice A' L'.length c').ownBlock ≠ some g
  s : Shr W base B te tb v k pa cp l
  bs : B ≤ base ∧ base ≤ W.heap.size
section
variable {W X W' : World} {base B c c' k n : Nat} {e te tb : TypeId} {A A' : Option Addr} {L L' : List Nat} {v : Value} {pa : Nat → Option Addr} {cp : Nat → Nat} {l : Nat → List Nat}
theorem Shr.by {row : Option Nat} (h : Shr W base B te tb v k pa cp l) (hB : B ≤ base ∧ base ≤ W.heap.size) (hg : W.grownBy X row) (hr : ∀ r, row = some r → base ≤ r ∧ (v.ownBlock ≠ some r) ∧ ∃ cs e', W.heap[r]? = some (.cells cs e' (0, 0)) ∧ e' ≠ tb) : Shr X base B te tb v k pa cp l := by
  refine ⟨owns_by h.own hg fun r e' => (hr r e').2.1, fun i hi => ?_⟩
  rcases h.row i hi with h1 | h1
  · exact .inl (h1.below ⟨hg.os, hg.tape, hg.output, hg.size, fun b hb => hg.block b (by omega) (fun e' => by have := (hr b e'.symm).1; omega)⟩)
  · exact .inr (by
      refine ⟨owns_by h1.1 hg fun r e' hb => ?_, h1.2⟩
      obtain ⟨_, _, cs, e2, h2, h3⟩ := hr r e'
      obtain ⟨_, _, cs2, h4⟩ := owns_blk h1.1 hb
      rw [h2] at h4
      injection h4 with h4
      injection h4 with _ h4
      exact h3 h4)
theorem Ocs.start (w : World) (hB : B ≤ w.heap.size) (e te tb : TypeId) (l : Nat → List Nat) : Ocs w w.heap.size B e te tb none 0 [] none 0 [] (.slice none 0 0) 0 (fun _ => none) (fun _ => 0) l :=
  ⟨OwnJ.nil _ _ _, OwnJ.nil _ _ _, fun g h => (by cases h), ⟨World.ownsRow_nil w _ te 1, fun i hi => (by omega)⟩, hB, Nat.le_refl _⟩
/-- Where worlds only grow. -/
theorem Ocs.grow (h : Ocs W base B e te tb A c L A' c' L' v k pa cp l) (hb : Below W.heap.size W X) : Ocs X base B e te tb A c L A' c' L' v k pa cp l := by
  have hg : W.grownBy X none := ⟨hb.os, hb.tape, hb.output, hb.size, fun i hi _ => hb.block i hi⟩
  exact ⟨owns_by h.f hg (fun r hr => by cases hr), owns_by h.w hg (fun r hr => by cases hr), h.dis, h.s.by h.bs hg (fun r hr => by cases hr), h.bs.1, Nat.le_trans h.bs.2 hb.size⟩
/-- Onto the second row a number is put. -/
theorem Ocs.want (h : Ocs W base B e te tb A c L A' c' L' v k pa cp l) (h1 : e ≠ te) (h2 : e ≠ tb) {x : Nat} {v' : Value} (hown : X.ownsRow base e 1 v' (L'.length + 1) (intv L' ++ [.int .i64 (x : Int)])) (hg : W.grownBy X (Value.slice A' L'.length c').ownBlock)
    (hat : v'.ownBlock = (Value.slice A' L'.length c').ownBlock ∨ v'.ownBlock = some W.heap.size) : ∃ A2 c2, v' = .slice A2 (L' ++ [x]).length c2 ∧ Ocs X base B e te tb A c L A2 c2 (L' ++ [x]) v k pa cp l := by
  obtain ⟨A2, c2, rfl, hO⟩ := OwnJ.mk' (L := L' ++ [x]) (by rw [intv_app]; exact hown)
  have hb := fun r hr => owns_blk h.w (r := r) hr
  refine ⟨A2, c2, rfl, owns_by h.f hg fun r hr hf => h.dis r hf hr, hO, fun g hf hw => ?_, h.s.by h.bs hg fun r hr => ?_, h.bs.1, Nat.le_trans h.bs.2 hg.size⟩
  · rcases hat with h3 | h3
    · rw [hw] at h3; exact h.dis g hf h3.symm
    · rw [hw] at h3; injection h3 with h3
      have := (owns_blk h.f hf).2.1
      omega
  · obtain ⟨h3, _, cs, h4⟩ := hb r hr
    refine ⟨h3, fun hv => ?_, cs, e, h4, h2⟩
    obtain ⟨_, _, cs', h5⟩ := owns_blk h.s.own hv
    rw [h4] at h5
    injection h5 with h5
    injection h5 with _ h5
    exact h1 h5
/-- Onto the first row a number is put. -/
theorem Ocs.from_ (h : Ocs W base B e te tb A c L A' c' L' v k pa cp l) (h1 : e ≠ te) (h2 : e ≠ tb) {x : Nat} {v' : Value} (hown : X.ownsRow base e 1 v' (L.length + 1) (intv L ++ [.int .i64 (x : Int)])) (hg : W.grownBy X (Value.slice A L.length c).ownBlock)
    (hat : v'.ownBlock = (Value.slice A L.length c).ownBlock ∨ v'.ownBlock = some W.heap.size) : ∃ A2 c2, v' = .slice A2 (L ++ [x]).length c2 ∧ Ocs X base B e te tb A2 c2 (L ++ [x]) A' c' L' v k pa cp l := by
  have hs : Ocs W base B e te tb A' c' L' A c L v k pa cp l := ⟨h.w, h.f, fun g h3 h4 => h.dis g h4 h3, h.s, h.bs⟩
  obtain ⟨A2, c2, h3, h4⟩ := hs.want h1 h2 hown hg hat
  exact ⟨A2, c2, h3, h4.w, h4.f, fun g h5 h6 => h4.dis g h6 h5, h4.s, h4.bs⟩
/-- Onto the table a row is put. -/
theorem Ocs.share (h : Ocs W base B e te tb A c L A' c' L' v k pa cp l) (h1 : e ≠ te) (h3 : te ≠ tb) {v' : Value} {Ar : Option Addr} {cr : Nat} (hrow : In X B Ar cr (l k) ∨ Own X base tb Ar cr (l k)) (hown : X.ownsRow base te 1 v' (k + 1) (rvl pa cp l k ++ [.slice Ar (l k).length cr])) (hg : W.grownBy X v.ownBlock) :
    Ocs X base B e te tb A c L A' c' L' v' (k + 1) (fun i => if i = k then Ar else pa i) (fun i => if i = k then cr else cp i) l := by
  refine ⟨owns_other h.f h.s.own h1 hg, owns_other h.w h.s.own h1 hg, h.dis, ⟨?_, fun i hi => ?_⟩, h.bs.1, Nat.le_trans h.bs.2 hg.size⟩
  · have e1 : rvl (fun i => if i = k then Ar else pa i) (fun i => if i = k then cr else cp i) l (k + 1) = rvl pa cp l k ++ [.slice Ar (l k).length cr] := by
      unfold rvl
      rw [List.range_succ, List.map_append]
      congr 1
      · refine List.map_congr_left fun i hi => ?_
        have := List.mem_range.1 hi
        show Value.slice (if i = k then Ar else pa i) _ (if i = k then cr else cp i) = _
        rw [if_neg (by omega), if_neg (by omega)]
      · simp
    rw [e1]; exact hown
  · by_cases hik : i = k
    · subst hik; simpa using hrow
    · simp only [if_neg hik]
      have hi' : i < k := by omega
      rcases h.s.row i hi' with h4 | h4
      · exact .inl (h4.below ⟨hg.os, hg.tape, hg.output, hg.size, fun b hb => hg.block b (by have := h.bs; omega) (fun e' => by have := (owns_blk h.s.own e'.symm).1; have := h.bs; omega)⟩)
      · refine .inr ⟨owns_other h4.1 h.s.own (Ne.symm h3) hg, h4.2⟩
end
end Gw
end
section
/- All ways to pick some of so many, in numbers; the polynomial that is agreed on is found among them. -/
namespace Pol
open Go.Proofs.Ytgikgnhpplmljaa

/-- The ways whose last one is one of s, .., s + j - 1; f are the ways ahead of a last one. -/
def pkL (f : Nat → List (List Nat)) (s : Nat) : Nat → List (List Nat)
  | 0 => []
  | j + 1 => pkL f s j ++ (f (s + j)).map (· ++ [s + j])
/-- All ways to pick s of n, each rising. -/
def pk : Nat → Nat → List (List Nat)
  | 0, _ => [[]]
  | s + 1, n => pkL (pk s) s (n - s)
theorem pkL_mem (f : Nat → List (List Nat)) (s : Nat) (r : List Nat) : ∀ j, r ∈ pkL f s j ↔ ∃ i, i < j ∧ ∃ q ∈ f (s + i), r = q ++ [s + i] := by
  intro j
  induction j with
  | zero => simp [pkL]
  | succ j ih =>
    rw [pkL, List.mem_append, ih, List.mem_map]
    constructor
    · rintro (⟨i, hi, q, hq, rfl⟩ | ⟨q, hq, rfl⟩)
      · exact ⟨i, by omega, q, hq, rfl⟩
      · exact ⟨j, by omega, q, hq, rfl⟩
    · rintro ⟨i, hi, q, hq, rfl⟩
      by_cases e : i = j
      · subst e; exact .inr ⟨q, hq, rfl⟩
      · exact .inl ⟨i, by omega, q, hq, rfl⟩
theorem pk_sound (s : Nat) : ∀ n r, r ∈ pk s n → r.length = s ∧ (∀ x ∈ r, x < n) ∧ r.Pairwise (· < ·) := by
  induction s with
  | zero =>
    intro n r hr
    have : r = [] := by simpa [pk] using hr
    subst this
    exact ⟨rfl, fun x hx => (List.not_mem_nil hx).elim, List.Pairwise.nil⟩
  | succ s ih =>
    intro n r hr
    obtain ⟨i, hi, q, hq, rfl⟩ := (pkL_mem _ _ _ _).1 hr
    obtain ⟨h1, h2, h3⟩ := ih _ _ hq
    refine ⟨by simp [h1], fun x hx => ?_, ?_⟩
    · rcases List.mem_append.1 hx with h | h
      · have := h2 x h; omega
      · simp at h; omega
    · rw [List.pairwise_append]
      exact ⟨h3, by simp, fun a ha b hb => by simp at hb; subst hb; exact h2 a ha⟩
theorem rising_big : ∀ (r : List Nat), r.Pairwise (· < ·) → ∀ n, (∀ x ∈ r, x < n) → r.length ≤ n := by
  intro r hp n hn
  have h := hp.imp (fun {a b} (h : a < b) => Nat.ne_of_lt h)
  have hs : r.Nodup := h
  have hsub : r ⊆ List.range n := fun x hx => List.mem_range.2 (hn x hx)
  have := (List.nodup_range (n := n))
  have hl := hs.length_le_of_subset hsub
  simpa using hl
theorem pk_all (s : Nat) : ∀ n r, r.length = s → (∀ x ∈ r, x < n) → r.Pairwise (· < ·) → r ∈ pk s n := by
  induction s with
  | zero =>
    intro n r hl _ _
    have : r = [] := List.length_eq_zero_iff.1 hl
    subst this
    simp [pk]
  | succ s ih =>
    intro n r hl hn hp
    have hne : r ≠ [] := fun e => by rw [e] at hl; simp at hl
    obtain ⟨q, x, rfl⟩ : ∃ q x, r = q ++ [x] := ⟨r.dropLast, r.getLast hne, (List.dropLast_concat_getLast hne).symm⟩
    rw [List.pairwise_append] at hp
    have hql : q.length = s := by simpa using hl
    have hqx : ∀ y ∈ q, y < x := fun y hy => hp.2.2 y hy x (by simp)
    have hsx := rising_big q hp.1 x hqx
    have hxn := hn x (by simp)
    refine (pkL_mem _ _ _ _).2 ⟨x - s, by omega, q, ?_, ?_⟩
    · rw [show s + (x - s) = x by omega]; exact ih x q hql hqx hp.1
    · rw [show s + (x - s) = x by omega]
theorem pkL_len (f : Nat → List (List Nat)) (s : Nat) (hf : ∀ n, (f n).length ≤ 2 ^ n) : ∀ j, (pkL f s j).length + 2 ^ s ≤ 2 ^ (s + j) := by
  intro j
  induction j with
  | zero => simp [pkL]
  | succ j ih =>
    rw [pkL, List.length_append, List.length_map]
    have := hf (s + j)
    have h2 : 2 ^ (s + (j + 1)) = 2 ^ (s + j) + 2 ^ (s + j) := by rw [← Nat.add_assoc, Nat.pow_succ]; omega
    omega
theorem pk_len (s : Nat) : ∀ n, (pk s n).length ≤ 2 ^ n := by
  induction s with
  | zero => intro n; simp [pk]; exact Nat.one_le_two_pow
  | succ s ih =>
    intro n
    have h := pkL_len (pk s) s ih (n - s)
    by_cases hn : s ≤ n
    · rw [show s + (n - s) = n by omega] at h
      have e : (pk (s + 1) n).length = (pkL (pk s) s (n - s)).length := rfl
      rw [e]
      exact Nat.le_trans (Nat.le_add_right _ _) h
    · have e : n - s = 0 := by omega
      have : (pk (s + 1) n).length = (pkL (pk s) s (n - s)).length := rfl
      rw [this, e]; simp [pkL]

/-- The bytes of l at the places of r. -/
def pts (l r : List Nat) : List Nat := r.map (co l)
theorem pts_len (l r : List Nat) : (pts l r).length = r.length := by simp [pts]
theorem pts_bb {l : List Nat} (h : BB l) (r : List Nat) : BB (pts l r) := fun x hx => by
  obtain ⟨i, _, rfl⟩ := List.mem_map.1 hx
  exact h.co i
theorem pts_nodup {l r : List Nat} (hl : l.Nodup) (hr : r.Pairwise (· < ·)) (hn : ∀ x ∈ r, x < l.length) : (pts l r).Nodup := by
  unfold pts
  rw [List.Nodup, List.pairwise_map]
  refine hr.imp_of_mem fun {a b} ha hb hab e => ?_
  have h1 := hn a ha
  have h2 := hn b hb
  rw [co_get h1, co_get h2] at e
  have := (List.getElem_inj hl).1 e
  omega
/-- The places below k at which p has the value. -/
def agP (p xs ys : List Nat) : Nat → List Nat
  | 0 => []
  | k + 1 => if ev (co xs k) p = co ys k then agP p xs ys k ++ [k] else agP p xs ys k
theorem agP_len (p xs ys : List Nat) (k : Nat) : (agP p xs ys k).length = agrTo p xs ys k := by
  induction k with
  | zero => simp [agP, agrTo]
  | succ k ih => unfold agP agrTo; split <;> (try rw [List.length_append, List.length_singleton]) <;> omega
theorem agP_lt (p xs ys : List Nat) (k : Nat) : ∀ i ∈ agP p xs ys k, i < k ∧ ev (co xs i) p = co ys i := by
  induction k with
  | zero => simp [agP]
  | succ k ih =>
    intro i hi
    unfold agP at hi
    split at hi
    · rcases List.mem_append.1 hi with h | h
      · exact ⟨by have := (ih i h).1; omega, (ih i h).2⟩
      · simp at h; subst h; exact ⟨by omega, ‹_›⟩
    · exact ⟨by have := (ih i hi).1; omega, (ih i hi).2⟩
theorem agP_rising (p xs ys : List Nat) (k : Nat) : (agP p xs ys k).Pairwise (· < ·) := by
  induction k with
  | zero => simp [agP]
  | succ k ih =>
    unfold agP
    split
    · rw [List.pairwise_append]
      exact ⟨ih, by simp, fun a ha b hb => by
        have hbk : b = k := by simpa using hb
        rw [hbk]; exact (agP_lt p xs ys k a ha).1⟩
    · exact ih
/-- What is made of the values at some places. -/
def pthr (xs ys r : List Nat) : List Nat := thr (pts xs r) (pts ys r)
theorem agrTo_tr (p xs ys : List Nat) (k : Nat) : agrTo (tr p) xs ys k = agrTo p xs ys k := by
  induction k with
  | zero => rfl
  | succ k ih => unfold agrTo; rw [ev_tr, ih]
/-- A polynomial with so many values is made of some d + 1 of them. -/
theorem pick_finds {p xs ys : List Nat} {s : Nat} (hp : BB p) (hx : BB xs) (hy : BB ys) (hn : xs.Nodup) (hl : p.length ≤ s) (ha : s ≤ agrTo p xs ys xs.length) : ∃ r ∈ pk s xs.length, pthr xs ys r = tr p := by
  obtain ⟨r, hr⟩ : ∃ r, r = (agP p xs ys xs.length).take s := ⟨_, rfl⟩
  have hsub : r.Sublist (agP p xs ys xs.length) := by rw [hr]; exact List.take_sublist _ _
  have hrl : r.length = s := by rw [hr, List.length_take, agP_len]; omega
  have hmem : ∀ i ∈ r, i < xs.length ∧ ev (co xs i) p = co ys i := fun i hi => agP_lt p xs ys _ i (hsub.subset hi)
  have hris : r.Pairwise (· < ·) := (agP_rising p xs ys _).sublist hsub
  refine ⟨r, pk_all s _ r hrl (fun x hx => (hmem x hx).1) hris, ?_⟩
  unfold pthr
  refine (thr_only (pts_bb hx r) (pts_bb hy r) (pts_nodup hn hris (fun x hx => (hmem x hx).1)) hp (Dg.len (by rw [pts_len, hrl]; exact hl)) ?_).symm
  intro j hj
  rw [pts_len] at hj
  have h1 := (hmem r[j] (List.getElem_mem hj)).2
  simp only [pts, List.getElem_map]
  rw [h1]
  simp [co, hj]
theorem pthr_ok {xs ys r : List Nat} {s : Nat} (hr : r ∈ pk s xs.length) : BB (pthr xs ys r) ∧ tr (pthr xs ys r) = pthr xs ys r ∧ (pthr xs ys r).length ≤ s := by
  refine ⟨thr_bb _ _, tr_thr _ _, ?_⟩
  have h := thr_len (pts xs r) (pts ys r)
  rw [pts_len, (pk_sound s _ r hr).1] at h
  exact h
end Pol
end
