/- A Save where there is no fuse, and one that a fuse may cut: what the statements on cuts walk with. -/
import Derived.Test.YtijbpafmokbnaaaSkk
namespace Gw
theorem Pw.free : ∀ (n u : Nat), Pw.ok n ⟨-1, false, u⟩ = true ∧ Pw.go n ⟨-1, false, u⟩ = ⟨-1, false, u + n⟩
  | 0, u => ⟨rfl, rfl⟩
  | n + 1, u => by
    have hc : Pw.can ⟨-1, false, u⟩ = true := rfl
    have h1 : Pw.one ⟨-1, false, u⟩ = ⟨-1, false, u + 1⟩ := by rw [Pw.one_yes hc]; rfl
    obtain ⟨h2, h3⟩ := Pw.free n (u + 1)
    constructor
    · show (Pw.can ⟨-1, false, u⟩ && Pw.ok n (Pw.one ⟨-1, false, u⟩)) = true
      rw [hc, h1, h2]; rfl
    · show (bif Pw.can ⟨-1, false, u⟩ then Pw.go n (Pw.one ⟨-1, false, u⟩) else Pw.one ⟨-1, false, u⟩) = _
      rw [hc, h1, cond_true, h3]
      congr 1
      omega
end Gw
namespace Go.Proofs.Ytijbpafmokbnaaa
open Go.RowKit Go.Shelf Gw Pol
theorem sq_free (a p g r B u u2 : Nat) (K b : List Nat) (A : Option Addr) (m c : Nat) (w : World) (h : Sq w a p g r ⟨-1, false, u⟩ K) (hI : In w B A c b) (hA : ∀ o, b ≠ [] → A ≠ some ⟨a, o, none⟩ ∧ A ≠ some ⟨p, o, none⟩ ∧ A ≠ some ⟨g, o, none⟩) (hm : m = b.length) (ht : tk m ≤ r) (hu : u < 2305843009213693952) (hu2 : u2 = u + (tk b.length + 1) + tk K.length) :
    Calls Try.prog 12 #[.pointer (some ⟨a, 0, none⟩), .slice A m c] w fun e w' => e = .returned (.int .i64 0) ∧ Sq w' a p g r ⟨-1, false, u2⟩ b ∧ K3 w w' a p g := by
  obtain ⟨h1, h2⟩ := Pw.free (tk b.length + 1) u
  obtain ⟨h3, h4⟩ := Pw.free (tk K.length) (u + (tk b.length + 1))
  refine (sq_yes a p g r B K b _ A m c w h hI hA hm ht hu h1).mono ?_
  rintro e w' ⟨he, hq, hk⟩
  rw [h2, h3] at he
  rw [h2, h4] at hq
  subst hu2
  exact ⟨he, hq, hk⟩
/-- A Save, whatever comes of it: something is told, and the old is kept or the new. -/
theorem sq_cut (a p g r B : Nat) (K b : List Nat) (s : Pw) (A : Option Addr) (m c : Nat) (w : World) (h : Sq w a p g r s K) (hI : In w B A c b) (hA : ∀ o, b ≠ [] → A ≠ some ⟨a, o, none⟩ ∧ A ≠ some ⟨p, o, none⟩ ∧ A ≠ some ⟨g, o, none⟩) (hm : m = b.length) (hl : m < 140737488355328) (hu : s.u ≤ 8192) :
    Calls Try.prog 12 #[.pointer (some ⟨a, 0, none⟩), .slice A m c] w fun e w' => ∃ (ev : Int) (s2 : Pw) (K2' : List Nat), e = .returned (.int .i64 ev) ∧ Sq w' a p g r s2 K2' ∧ ((K2' = K ∧ ev ≠ 0) ∨ K2' = b) ∧ s2.u ≤ 16384 ∧ K3 w w' a p g := by
  have hlen := h.len
  by_cases ht : r < tk m
  · refine (sq_big a p g r K s A m c w h ht hl).mono ?_
    rintro e w' ⟨he, hb⟩
    exact ⟨7, s, K, he, h.below hb (Nat.le_refl _), .inl ⟨rfl, by omega⟩, by omega, K3.ofBelow hb (Nat.le_refl _)⟩
  · have hto : tk b.length ≤ 512 := by rw [← hm]; omega
    have hko : tk K.length ≤ 512 := by unfold tk; omega
    have hg1 := (Pw.go_u (tk b.length + 1) s).1
    have hg2 := (Pw.go_u (tk K.length) (Pw.go (tk b.length + 1) s)).1
    refine (sq_save a p g r B K b s A m c w h hI hA hm (by omega) (by omega)).mono ?_
    rintro e w' ⟨hk, ⟨_, he, hq⟩ | ⟨_, he, hq⟩⟩
    · exact ⟨3, _, K, he, hq, .inl ⟨rfl, by omega⟩, by omega, hk⟩
    · exact ⟨_, _, b, he, hq, .inr rfl, by omega, hk⟩
end Go.Proofs.Ytijbpafmokbnaaa
