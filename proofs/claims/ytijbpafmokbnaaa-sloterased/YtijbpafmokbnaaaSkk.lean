/- The two slots side by side: what the statements of layer 15 walk with. -/
import Derived.Test.YtijbpafmokbnaaaSkj
import Derived.Test.YtijbpafmokbnaaaSke
namespace Gw
open Go
/-- The same fuse, and the same power. -/
def Pw.eqv (s t : Pw) : Prop := s.Z = t.Z ∧ s.gone = t.gone
theorem Pw.eqv_can {s t : Pw} (h : s.eqv t) : s.can = t.can := by unfold Pw.can; rw [h.1, h.2]
theorem Pw.eqv_one {s t : Pw} (h : s.eqv t) : s.one.eqv t.one := by
  unfold Pw.eqv Pw.one
  rw [Pw.eqv_can h, h.1]
  exact ⟨rfl, rfl⟩
theorem Pw.eqv_go : ∀ (n : Nat) {s t : Pw}, s.eqv t → (Pw.go n s).eqv (Pw.go n t) ∧ Pw.ok n s = Pw.ok n t
  | 0, _, _, h => ⟨h, rfl⟩
  | n + 1, s, t, h => by
    obtain ⟨h1, h2⟩ := Pw.eqv_go n (Pw.eqv_one h)
    show (bif s.can then Pw.go n s.one else s.one).eqv (bif t.can then Pw.go n t.one else t.one) ∧ (s.can && Pw.ok n s.one) = (t.can && Pw.ok n t.one)
    rw [Pw.eqv_can h, h2]
    refine ⟨?_, rfl⟩
    cases t.can
    · exact Pw.eqv_one h
    · exact h1
end Gw
namespace Go.Proofs.Ytijbpafmokbnaaa
open Go.RowKit Go.Shelf Gw Pol
theorem Rs.new {w : World} {q B0 room : Nat} (hb : Rb w q (room : Int) (-1) 0 false false (.slice none 0 0)) (hq : q < B0) (hr : room ≤ 512) : Rs w q q B0 room ⟨-1, false, 0⟩ [] :=
  ⟨hq, hb.lt, hr, by show tk 0 ≤ room; unfold tk; omega, ⟨Int.le_refl _, by decide⟩, false, none, 0, hb, Own.none_ w B0 _, .inl ⟨rfl, rfl⟩⟩
theorem Rs.kb {w : World} {q k B0 room : Nat} {s : Pw} {K : List Nat} (h : Rs w q k B0 room s K) : k = q ∨ B0 ≤ k := by
  obtain ⟨dirty, A, c, _, ho, hA⟩ := h.box
  rcases hA with ⟨_, h⟩ | rfl
  · exact .inl h
  · exact .inr (ho.lt).1
theorem Rs.k3 {w w' : World} {q k B0 room a p g : Nat} {s : Pw} {K : List Nat} (h : Rs w q k B0 room s K) (hk : K3 w w' a p g) (h1 : q ≠ a ∧ q ≠ p ∧ q ≠ g) (h2 : a < B0 ∧ p < B0 ∧ g < B0) : Rs w' q k B0 room s K := by
  have hkb := h.kb
  obtain ⟨dirty, A, c, hb, ho, hA⟩ := h.box
  have hkk : w'.heap[k]? = w.heap[k]? := hk.block k h.klt (by omega) (by omega) (by omega)
  refine ⟨h.lt, Nat.lt_of_lt_of_le h.klt hk.size, h.few, h.len, h.fit, dirty, A, c, (hk.block q hb.lt h1.1 h1.2.1 h1.2.2).trans hb, ?_, hA⟩
  refine ⟨⟨ho.1.1, ?_⟩, ho.2⟩
  rcases ho.1.2 with h0 | ⟨gg, cap, cur, hv, h3, h4, h5⟩
  · exact .inl h0
  · refine .inr ⟨gg, cap, cur, hv, h3, ?_, h5⟩
    have hlt := (Array.getElem?_eq_some_iff.1 h4).1
    exact (hk.block gg hlt (by omega) (by omega) (by omega)).trans h4
theorem fsave_no (y : Nat) (A : Option Addr) (m c : Nat) (w : World) (q k B0 room B : Nat) (s : Pw) (K b : List Nat) (N : Int) (h : Rs w q k B0 room s K) (hB0 : B0 ≤ w.heap.size) (hI : In w B A c b) (hm : m = b.length) (hA : ∀ o, b ≠ [] → A ≠ some ⟨q, o, none⟩) (ht : tk m ≤ room) (hu : s.u < 2305843009213693952) (ho : Pw.ok (tk b.length + 1) s = false) :
    Calls Try.prog 11 #[.pointer (some ⟨q, 0, none⟩), .agg #[.int .i64 1, .int .i64 N, .int .u8 (y : Int), .slice A m c]] w fun e w' => e = .returned (.int .i64 3) ∧ Rs w' q k B0 room (Pw.go (tk b.length + 1) s) K ∧ K2 w w' q k := by
  refine (fsave_any y A m c w q k B0 room B s K b N h hB0 hI hm hA ht hu).mono ?_
  rintro e w' (⟨_, h2, h3, h4⟩ | ⟨h1, _⟩)
  · exact ⟨h2, h3, h4⟩
  · rw [ho] at h1; cases h1
theorem fsave_yes (y : Nat) (A : Option Addr) (m c : Nat) (w : World) (q k B0 room B : Nat) (s : Pw) (K b : List Nat) (N : Int) (h : Rs w q k B0 room s K) (hB0 : B0 ≤ w.heap.size) (hI : In w B A c b) (hm : m = b.length) (hA : ∀ o, b ≠ [] → A ≠ some ⟨q, o, none⟩) (ht : tk m ≤ room) (hu : s.u < 2305843009213693952) (ho : Pw.ok (tk b.length + 1) s = true) :
    Calls Try.prog 11 #[.pointer (some ⟨q, 0, none⟩), .agg #[.int .i64 1, .int .i64 N, .int .u8 (y : Int), .slice A m c]] w fun e w' => e = .returned (.int .i64 (bif Pw.ok (tk K.length) (Pw.go (tk b.length + 1) s) then 0 else 3)) ∧ (∃ k', (k' = q ∨ w.heap.size ≤ k') ∧ Rs w' q k' B0 room (Pw.go (tk K.length) (Pw.go (tk b.length + 1) s)) b) ∧ K2 w w' q k := by
  refine (fsave_any y A m c w q k B0 room B s K b N h hB0 hI hm hA ht hu).mono ?_
  rintro e w' (⟨h1, _⟩ | ⟨_, h2, k', h3, h4, h5⟩)
  · rw [ho] at h1; cases h1
  · exact ⟨h2, ⟨k', h3, h4⟩, h5⟩
theorem sq_no (a p g r B : Nat) (K b : List Nat) (s : Pw) (A : Option Addr) (m c : Nat) (w : World) (h : Sq w a p g r s K) (hI : In w B A c b) (hA : ∀ o, b ≠ [] → A ≠ some ⟨a, o, none⟩ ∧ A ≠ some ⟨p, o, none⟩ ∧ A ≠ some ⟨g, o, none⟩) (hm : m = b.length) (ht : tk m ≤ r) (hu : s.u < 2305843009213693952) (ho : Pw.ok (tk b.length + 1) s = false) :
    Calls Try.prog 12 #[.pointer (some ⟨a, 0, none⟩), .slice A m c] w fun e w' => e = .returned (.int .i64 3) ∧ Sq w' a p g r (Pw.go (tk b.length + 1) s) K ∧ K3 w w' a p g := by
  refine (sq_save a p g r B K b s A m c w h hI hA hm ht hu).mono ?_
  rintro e w' ⟨hk, ⟨_, h2, h3⟩ | ⟨h1, _⟩⟩
  · exact ⟨h2, h3, hk⟩
  · rw [ho] at h1; cases h1
theorem sq_yes (a p g r B : Nat) (K b : List Nat) (s : Pw) (A : Option Addr) (m c : Nat) (w : World) (h : Sq w a p g r s K) (hI : In w B A c b) (hA : ∀ o, b ≠ [] → A ≠ some ⟨a, o, none⟩ ∧ A ≠ some ⟨p, o, none⟩ ∧ A ≠ some ⟨g, o, none⟩) (hm : m = b.length) (ht : tk m ≤ r) (hu : s.u < 2305843009213693952) (ho : Pw.ok (tk b.length + 1) s = true) :
    Calls Try.prog 12 #[.pointer (some ⟨a, 0, none⟩), .slice A m c] w fun e w' => e = .returned (.int .i64 (bif Pw.ok (tk K.length) (Pw.go (tk b.length + 1) s) then 0 else 3)) ∧ Sq w' a p g r (Pw.go (tk K.length) (Pw.go (tk b.length + 1) s)) b ∧ K3 w w' a p g := by
  refine (sq_save a p g r B K b s A m c w h hI hA hm ht hu).mono ?_
  rintro e w' ⟨hk, ⟨h1, _⟩ | ⟨_, h2, h3⟩⟩
  · rw [ho] at h1; cases h1
  · exact ⟨h2, h3, hk⟩
/-- What is loaded. -/
def LdIs (n : Nat) (K : List Nat) : Value → World → Prop := fun v w => ∃ A c, v = .slice A n c ∧ In w w.heap.size A c K
theorem LdIs.mono (n : Nat) (K : List Nat) : Gt.Mono (LdIs n K) := by
  rintro v w w' ⟨A, c, rfl, h⟩ hg
  exact ⟨A, c, rfl, (h.below hg).more hg.size⟩
theorem in_no {w : World} {B c : Nat} {A : Option Addr} {b : List Nat} {x : Nat} (h : In w B A c b) (hx : B ≤ x) (hne : b ≠ []) : ∀ o, A ≠ some ⟨x, o, none⟩ := by
  rintro o rfl
  cases b with
  | nil => exact hne rfl
  | cons y l =>
    obtain ⟨_, b', off, e, hb', _⟩ := h.sl 0 y rfl
    injection e with e
    injection e with e1
    omega
end Go.Proofs.Ytijbpafmokbnaaa
