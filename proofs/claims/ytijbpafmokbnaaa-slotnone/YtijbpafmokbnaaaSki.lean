/- A slot told by what is kept and by its power: each call, whatever its disk holds. -/
import Derived.Test.YtijbpafmokbnaaaSkz
namespace Go.Proofs.Ytijbpafmokbnaaa
open Go.RowKit Go.Shelf Gw Pol
/-- The slot at a, of r blocks a side, with the power s, keeps K. -/
def Sq (w : World) (a p g r : Nat) (s : Pw) (K : List Nat) : Prop := ∃ L side, Sz w a p g r L s ∧ Sd r L side K ∧ (s.gone = false → Cl r L side)
section
variable {w w' : World} {a p g r : Nat} {s : Pw} {K : List Nat}
theorem Sq.below {B : Nat} (h : Sq w a p g r s K) (hb : Below B w w') (hB : w.heap.size ≤ B) : Sq w' a p g r s K := by
  obtain ⟨L, side, h1, h2, h3⟩ := h
  exact ⟨L, side, h1.below hb hB, h2, h3⟩
theorem Sq.k2 {q k : Nat} (h : Sq w a p g r s K) (hk : K2 w w' q k) (h1 : a ≠ q ∧ p ≠ q ∧ g ≠ q) (h2 : a ≠ k ∧ p ≠ k ∧ g ≠ k) : Sq w' a p g r s K := by
  obtain ⟨L, side, h3, h4, h5⟩ := h
  exact ⟨L, side, h3.k2 hk h1 h2, h4, h5⟩
theorem Sq.drewN (h : Sq w a p g r s K) (n : Nat) : Sq (w.drewN n) a p g r s K := by
  obtain ⟨L, side, h3, h4, h5⟩ := h
  exact ⟨L, side, h3.drewN n, h4, h5⟩
theorem Sq.lt (h : Sq w a p g r s K) : a < w.heap.size ∧ p < w.heap.size ∧ g < w.heap.size ∧ s.fit := by
  obtain ⟨L, side, h3, _⟩ := h
  exact h3.lt
theorem Sq.len (h : Sq w a p g r s K) : K.length ≤ 32 * r ∧ r ≤ 512 := by
  obtain ⟨L, side, _, h4, _⟩ := h
  exact ⟨h4.fit, h4.few⟩
end
theorem sq_new (x : Int) (r : Nat) (hr : r = min x.toNat 512) (w : World) : Calls Try.prog 8 #[.int .i64 x] w fun e w' => ∃ a p g, e = .returned (.pointer (some ⟨a, 0, none⟩)) ∧ Sq w' a p g r ⟨-1, false, 0⟩ [] ∧ w.heap.size ≤ a ∧ w.heap.size ≤ p ∧ w.heap.size ≤ g ∧ Below w.heap.size w w' := by
  refine (znew_any x w).mono ?_
  rintro e w' ⟨a, p, g, L, r', h1, h2, h3, h4, h5, h6, h7, h8, h9⟩
  rw [← hr] at h3
  subst h3
  exact ⟨a, p, g, h1, ⟨L, 0, h2, h4, fun _ => h5⟩, h6, h7, h8, h9⟩
/-- What a Save makes of it. -/
def SqP (w : World) (a p g r : Nat) (s : Pw) (K b : List Nat) (e : Ending) (w' : World) : Prop :=
  K3 w w' a p g ∧ ((Pw.ok (tk b.length + 1) s = false ∧ e = .returned (.int .i64 3) ∧ Sq w' a p g r (Pw.go (tk b.length + 1) s) K) ∨
  (Pw.ok (tk b.length + 1) s = true ∧ e = .returned (.int .i64 (bif Pw.ok (tk K.length) (Pw.go (tk b.length + 1) s) then 0 else 3)) ∧ Sq w' a p g r (Pw.go (tk K.length) (Pw.go (tk b.length + 1) s)) b))
theorem sq_save (a p g r B : Nat) (K b : List Nat) (s : Pw) (A : Option Addr) (m c : Nat) (w : World) (h : Sq w a p g r s K) (hI : In w B A c b) (hA : ∀ o, b ≠ [] → A ≠ some ⟨a, o, none⟩ ∧ A ≠ some ⟨p, o, none⟩ ∧ A ≠ some ⟨g, o, none⟩) (hm : m = b.length) (ht : tk m ≤ r) (hu : s.u < 2305843009213693952) :
    Calls Try.prog 12 #[.pointer (some ⟨a, 0, none⟩), .slice A m c] w (SqP w a p g r s K b) := by
  obtain ⟨L, side, h3, h4, h5⟩ := h
  refine (zsave_any a p g r side B L K b s A m c w h3 h4 hI hA hm ht hu).mono ?_
  rintro e w' ⟨he, hz, hk⟩
  refine ⟨hk, ?_⟩
  subst hm
  cases ho : Pw.ok (tk b.length + 1) s with
  | false =>
    obtain ⟨g1, g2, g3, g4⟩ := Pw.go_not (tk b.length + 1) (tk K.length) s ho
    rw [g2] at he
    rw [g1, g3] at hz
    have hgone := Pw.go_gone _ _ ho
    exact .inl ⟨rfl, he, _, side, hz, h4.before ht _ (by omega), fun hg => by rw [hgone] at hg; cases hg⟩
  | true =>
    obtain ⟨g1, g2⟩ := Pw.go_add (tk b.length + 1) (tk K.length) s ho
    have hcan : s.can = true := by
      have : (s.can && Pw.ok (tk b.length) s.one) = true := ho
      rw [Bool.and_eq_true] at this; exact this.1
    have hcl := h5 (Pw.can_yes hcan).1
    rw [g2] at he
    rw [g1] at hz
    refine .inr ⟨rfl, he, ?_⟩
    cases ho2 : Pw.ok (tk K.length) (Pw.go (tk b.length + 1) s) with
    | true =>
      have hd := Pw.done_ok (tk b.length + 1 + tk K.length) s (by rw [g2]; exact ho2)
      rw [hd] at hz
      exact ⟨_, 1 - side, hz, h4.behind hcl ht _ (Nat.le_refl _), fun _ => h4.wiped ht⟩
    | false =>
      have hgone := Pw.go_gone _ _ ho2
      have hge : ∀ (n k : Nat) (s : Pw), Pw.ok n s = true → n ≤ Pw.done (n + k) s := by
        intro n
        induction n with
        | zero => intro k s _; exact Nat.zero_le _
        | succ n ih =>
          intro k s h
          simp only [Pw.ok, Bool.and_eq_true] at h
          rw [show n + 1 + k = (n + k) + 1 by omega]
          show n + 1 ≤ (bif s.can then Pw.done (n + k) s.one + 1 else 0)
          rw [h.1, cond_true]
          have := ih k s.one h.2
          omega
      have h1 := hge (tk b.length + 1) (tk K.length) s ho
      have h2 := Pw.done_le (tk b.length + 1 + tk K.length) s
      obtain ⟨e2, he2⟩ : ∃ e2, Pw.done (tk b.length + 1 + tk K.length) s = tk b.length + 1 + e2 := ⟨_, (Nat.add_sub_cancel' h1).symm⟩
      rw [he2] at hz h2
      exact ⟨_, 1 - side, hz, h4.behind hcl ht e2 (by omega), fun hg => by rw [hgone] at hg; cases hg⟩
theorem sq_big (a p g r : Nat) (K : List Nat) (s : Pw) (A : Option Addr) (m c : Nat) (w : World) (h : Sq w a p g r s K) (ht : r < tk m) (hm : m < 140737488355328) :
    Calls Try.prog 12 #[.pointer (some ⟨a, 0, none⟩), .slice A m c] w fun e w' => e = .returned (.int .i64 7) ∧ Below w.heap.size w w' := by
  obtain ⟨L, side, h3, h4, h5⟩ := h
  exact zsave_big a p g r L s A m c w h3 ht hm
theorem sq_load (a p g r : Nat) (K : List Nat) (s : Pw) (w : World) (h : Sq w a p g r s K) :
    Calls Try.prog 16 #[.pointer (some ⟨a, 0, none⟩)] w fun e w' => ∃ A c, e = .returned (.slice A K.length c) ∧ In w' w'.heap.size A c K ∧ Below w.heap.size w w' := by
  obtain ⟨L, side, h3, h4, h5⟩ := h
  exact zload_any a p g r side L K s w h3 h4
theorem sq_start (a p g r : Nat) (K : List Nat) (s : Pw) (w : World) (h : Sq w a p g r s K) (hu : s.u < 2305843009213693952) :
    Calls Try.prog 13 #[.pointer (some ⟨a, 0, none⟩)] w fun e w' => ∃ u', e = .returned (.tuple #[]) ∧ Sq w' a p g r ⟨-1, false, u'⟩ K ∧ u' ≤ s.u + r ∧ K3 w w' a p g := by
  obtain ⟨L, side, h3, h4, h5⟩ := h
  refine (zstart_any a p g r side L K s w h3 h4 hu).mono ?_
  rintro e w' ⟨L', u', g1, g2, g3, g4, g5, g6⟩
  exact ⟨u', g1, ⟨L', side, g2, g3, fun _ => g4⟩, g5, g6⟩
theorem sq_fuse (a p g r : Nat) (K : List Nat) (s : Pw) (x : Int) (w : World) (h : Sq w a p g r s K) (hx : x < 9223372036854775808) :
    Calls Try.prog 14 #[.pointer (some ⟨a, 0, none⟩), .int .i64 x] w fun e w' => e = .returned (.tuple #[]) ∧ Sq w' a p g r ⟨(x.toNat : Int), s.gone, s.u⟩ K ∧ K3 w w' a p g := by
  obtain ⟨L, side, h3, h4, h5⟩ := h
  refine (zfuse_any a p g r L s x w h3 hx).mono ?_
  rintro e w' ⟨g1, g2, g3⟩
  exact ⟨g1, ⟨L, side, g2, h4, h5⟩, g3⟩
theorem sq_down (a p g r : Nat) (K : List Nat) (s : Pw) (w : World) (h : Sq w a p g r s K) :
    Calls Try.prog 17 #[.pointer (some ⟨a, 0, none⟩)] w fun e w' => e = .returned (.bool s.gone) ∧ w' = w := by
  obtain ⟨L, side, h3, h4, h5⟩ := h
  exact zdown_any a p g r L s w h3
theorem sq_clean (a p g r : Nat) (K : List Nat) (s : Pw) (w : World) (h : Sq w a p g r s K) (hg : s.gone = false) :
    Calls Try.prog 20 #[.pointer (some ⟨a, 0, none⟩)] w fun e w' => e = .returned (.bool true) ∧ Below w.heap.size w w' := by
  obtain ⟨L, side, h3, h4, h5⟩ := h
  exact zclean_any a p g r side L K s w h3 h4 (h5 hg)
theorem sq_far (a p g r : Nat) (K : List Nat) (s : Pw) (x : Int) (y : Nat) (w : World) (h : Sq w a p g r s K) (hx : ¬ (0 ≤ x ∧ x < (K.length : Int))) :
    Calls Try.prog 15 #[.pointer (some ⟨a, 0, none⟩), .int .i64 x, .int .u8 (y : Int)] w fun e w' => e = .returned (.bool false) ∧ Below w.heap.size w w' := by
  obtain ⟨L, side, h3, h4, h5⟩ := h
  exact zturn_no a p g r side L K s x y w h3 h4 hx
theorem sq_turn (a p g r i y : Nat) (K : List Nat) (s : Pw) (w : World) (h : Sq w a p g r s K) (hi : i < K.length) (hy : y < 256) :
    Calls Try.prog 15 #[.pointer (some ⟨a, 0, none⟩), .int .i64 (i : Int), .int .u8 (y : Int)] w fun e w' => e = .returned (.bool true) ∧ Sq w' a p g r s (K.set i (co K i ^^^ y)) ∧ K3 w w' a p g := by
  obtain ⟨L, side, h3, h4, h5⟩ := h
  refine (zturn_yes a p g r side i y L K s w h3 h4 hi hy).mono ?_
  rintro e w' ⟨g1, g2, g3⟩
  obtain ⟨g4, g5⟩ := h4.turn i (co L (32 * (1 + side * r) + i) ^^^ y) hi
  rw [g5] at g2 g4
  have hcl : s.gone = false → Cl r (L.set (32 * (1 + side * r) + i) (co K i ^^^ y)) side := fun hg => Cl.turn h4 (h5 hg) i _ hi
  exact ⟨g1, ⟨_, side, g2, g4, hcl⟩, g3⟩
end Go.Proofs.Ytijbpafmokbnaaa
