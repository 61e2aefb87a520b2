/- The disk told by its power in numbers: one contract a call. -/
import Derived.Test.YtijbpafmokbnaaaSka
import Derived.Test.YtijbpafmokbnaaaDkc
import Derived.Test.YtijbpafmokbnaaaDkf
namespace Go.Proofs.Ytijbpafmokbnaaa
open Go.RowKit Go.Shelf Gw Pol
/-- The two fuses are one. -/
def Zr (fu : Bool) (lf : Nat) (Z : Int) : Prop := (fu = true ∧ Z = (lf : Int)) ∨ (fu = false ∧ Z = -1)
/-- A disk of n blocks that holds L, with the power s. -/
def Dz (w : World) (p g n : Nat) (L : List Nat) (s : Pw) : Prop := ∃ fu lf, Dk w p g n L s.gone fu lf s.u ∧ Zr fu lf s.Z ∧ lf < 9223372036854775808
section
variable {w w' : World} {p g n : Nat} {L : List Nat} {s : Pw}
theorem Dz.plt (h : Dz w p g n L s) : p < w.heap.size := by obtain ⟨_, _, h, _⟩ := h; exact Bxs.plt h
theorem Dz.glt (h : Dz w p g n L s) : g < w.heap.size := by obtain ⟨_, _, h, _⟩ := h; exact Bxs.glt h
theorem Dz.len (h : Dz w p g n L s) : L.length = 32 * n := by obtain ⟨_, _, h, _⟩ := h; exact Bxs.len h
theorem Dz.few (h : Dz w p g n L s) : n ≤ 2048 := by obtain ⟨_, _, h, _⟩ := h; exact Bxs.few h
theorem Dz.bb (h : Dz w p g n L s) : BB L := by obtain ⟨_, _, h, _⟩ := h; exact Bxs.bb h
theorem Dz.ne (h : Dz w p g n L s) : p ≠ g := by obtain ⟨_, _, h, _⟩ := h; exact Bxs.ne h
theorem Dz.fit (h : Dz w p g n L s) : s.fit := by
  obtain ⟨fu, lf, _, hz, hl⟩ := h
  unfold Pw.fit
  rcases hz with ⟨_, h⟩ | ⟨_, h⟩ <;> rw [h] <;> constructor <;> omega
theorem Dz.below {B : Nat} (h : Dz w p g n L s) (hb : Below B w w') (hB : w.heap.size ≤ B) : Dz w' p g n L s := by
  obtain ⟨fu, lf, h, hz, hl⟩ := h
  exact ⟨fu, lf, Bxs.below h hb hB, hz, hl⟩
theorem Dz.k2 {q r : Nat} (h : Dz w p g n L s) (hk : K2 w w' q r) (h1 : p ≠ q) (h2 : p ≠ r) (h3 : g ≠ q) (h4 : g ≠ r) : Dz w' p g n L s := by
  obtain ⟨fu, lf, h, hz, hl⟩ := h
  exact ⟨fu, lf, Bxs.k2 h hk h1 h2 h3 h4, hz, hl⟩
theorem Dz.drewN (h : Dz w p g n L s) (a : Nat) : Dz (w.drewN a) p g n L s := by
  obtain ⟨fu, lf, h, hz, hl⟩ := h
  exact ⟨fu, lf, Bxs.keep h rfl rfl, hz, hl⟩
end
theorem no_blk {w : World} {B p : Nat} {A : Option Addr} {b : List Nat} (h : Sl w B A b) (hb : b.length = 32) (hp : B ≤ p) : ∀ o, A ≠ some ⟨p, o, none⟩ := by
  rintro o rfl
  obtain ⟨x, b', off, _, _, e, hb', _⟩ := h.at_ (k := 0) (by omega)
  injection e with e
  injection e with e1
  omega
/-- New. -/
theorem dz_new (a : Int) (m : Nat) (h : a = (m : Int)) (hm : m ≤ 2048) (w : World) : Calls Try.prog 23 #[.int .i64 a] w fun e w' => ∃ p g L, e = .returned (.pointer (some ⟨p, 0, none⟩)) ∧ Dz w' p g m L ⟨-1, false, 0⟩ ∧ L = List.replicate (32 * m) 0 ∧ w.heap.size ≤ p ∧ w.heap.size ≤ g ∧ Below w.heap.size w w' := by
  refine (dnew_any a w).mono ?_
  rintro e w' ⟨p, g, h1, h2, h3, h4, h5⟩
  have hn : nb a = m := by unfold nb; omega
  rw [hn] at h2
  exact ⟨p, g, _, h1, ⟨false, 0, h2, .inr ⟨rfl, rfl⟩, by omega⟩, rfl, h3, h4, h5⟩
/-- One write: all of it, or nothing. -/
theorem dz_write (p g n : Nat) (L : List Nat) (s s2 : Pw) (cn : Bool) (k : Nat) (A : Option Addr) (c B : Nat) (b : List Nat) (w : World) (h : Dz w p g n L s) (hs2 : s2 = s.one) (hcn : cn = s.can) (hk : k < n) (hb : Sl w B A b) (hp : ∀ o, A ≠ some ⟨p, o, none⟩) (hl : b.length = 32) (hu : s.u < 4611686018427387904) :
    Calls Try.prog 31 #[.pointer (some ⟨p, 0, none⟩), .int .i64 (k : Int), .slice A 32 c] w fun e w' => e = .returned (.int .i64 (bif cn then 0 else 3)) ∧ Dz w' p g n (bif cn then laid L (k * 32) b else L) s2 ∧ K2 w w' p g := by
  obtain ⟨fu, lf, hd, hz, hlf⟩ := h
  subst hs2 hcn
  obtain ⟨Z, gone, u⟩ := s
  cases hc : Pw.can ⟨Z, gone, u⟩ with
  | true =>
    obtain ⟨h1, h2⟩ := Pw.can_yes hc
    have h1 : gone = false := h1
    have h2 : Z ≠ 0 := h2
    subst h1
    rw [Pw.one_yes hc]
    rcases hz with ⟨rfl, hz⟩ | ⟨rfl, hz⟩
    · have hz : Z = (lf : Int) := hz
      obtain ⟨z, rfl⟩ : ∃ z, lf = z + 1 := ⟨lf - 1, by omega⟩
      refine (dwrite_fuse p g n L z u k A c B b w hd hk hb hp hl hu (by omega)).mono ?_
      rintro e w' ⟨h3, h4, h5⟩
      refine ⟨h3, ⟨true, z, h4, .inl ⟨rfl, ?_⟩, by omega⟩, h5⟩
      show (if 0 < Z then Z - 1 else Z) = (z : Int)
      rw [if_pos (by omega)]
      omega
    · have hz : Z = -1 := hz
      refine (dwrite_ok p g n L lf u k A c B b w hd hk hb hl hu).mono ?_
      rintro e w' ⟨h3, h4, h5⟩
      refine ⟨h3, ⟨false, lf, h4, .inr ⟨rfl, ?_⟩, hlf⟩, h5⟩
      show (if 0 < Z then Z - 1 else Z) = -1
      rw [if_neg (by omega), hz]
  | false =>
    rw [Pw.one_no hc]
    have hno : gone = true ∨ Z = 0 := Pw.can_no hc
    by_cases hz0 : Z = 0
    · subst hz0
      rcases hz with ⟨rfl, hz⟩ | ⟨rfl, hz⟩
      · have hz : (0 : Int) = (lf : Int) := hz
        obtain rfl : lf = 0 := by omega
        refine (dwrite_goes p g n L gone u k A c w hd hk).mono ?_
        rintro e w' ⟨h3, h4, h5⟩
        exact ⟨h3, ⟨true, 0, h4, .inl ⟨rfl, rfl⟩, by omega⟩, h5⟩
      · have hz : (0 : Int) = -1 := hz
        omega
    · have hg : gone = true := hno.resolve_right hz0
      subst hg
      refine (dwrite_down p g n L u k fu lf A c w hd hk (fun hf => ?_)).mono ?_
      · rcases hz with ⟨_, hz⟩ | ⟨hff, _⟩
        · have hz : Z = (lf : Int) := hz
          omega
        · rw [hf] at hff; cases hff
      · rintro e w' ⟨h3, h4⟩
        subst h4
        exact ⟨h3, ⟨fu, lf, hd, hz, hlf⟩, K2.refl _ _ _⟩
theorem dz_read (p g n : Nat) (L : List Nat) (s : Pw) (k : Nat) (w : World) (h : Dz w p g n L s) (hk : k < n) :
    Calls Try.prog 22 #[.pointer (some ⟨p, 0, none⟩), .int .i64 (k : Int)] w fun e w' => ∃ r, e = .returned (.tuple #[.slice (some ⟨r, 0, none⟩) 32 32, .bool true]) ∧ Bk w' r 57 (piece L k) ∧ w.heap.size ≤ r ∧ Below w.heap.size w w' := by
  obtain ⟨fu, lf, hd, _⟩ := h
  exact dread_yes p g n L s.gone fu lf s.u k w hd hk
theorem dz_turn (p g n : Nat) (L : List Nat) (s : Pw) (k a y : Nat) (w : World) (h : Dz w p g n L s) (hk : k < n) (ha : a < 32) (hy : y < 256) :
    Calls Try.prog 36 #[.pointer (some ⟨p, 0, none⟩), .int .i64 (k : Int), .int .i64 (a : Int), .int .u8 (y : Int)] w fun e w' => e = .returned (.bool true) ∧ Dz w' p g n (L.set (k * 32 + a) (co L (k * 32 + a) ^^^ y)) s ∧ K2 w w' p g := by
  obtain ⟨fu, lf, hd, hz, hl⟩ := h
  refine (dturn_yes p g n L s.gone fu lf s.u k a y w hd hk ha hy).mono ?_
  rintro e w' ⟨h3, h4, h5⟩
  exact ⟨h3, ⟨fu, lf, h4, hz, hl⟩, h5⟩
theorem dz_fuse (p g n : Nat) (L : List Nat) (s : Pw) (a : Int) (w : World) (h : Dz w p g n L s) (ha : a < 9223372036854775808) :
    Calls Try.prog 35 #[.pointer (some ⟨p, 0, none⟩), .int .i64 a] w fun e w' => e = .returned (.tuple #[]) ∧ Dz w' p g n L ⟨(a.toNat : Int), s.gone, s.u⟩ ∧ K2 w w' p g := by
  obtain ⟨fu, lf, hd, hz, hl⟩ := h
  refine (dfuse_any p g n L s.gone fu lf s.u a w hd).mono ?_
  rintro e w' ⟨h3, h4, h5⟩
  exact ⟨h3, ⟨true, a.toNat, h4, .inl ⟨rfl, rfl⟩, by omega⟩, h5⟩
theorem dz_on (p g n : Nat) (L : List Nat) (s : Pw) (w : World) (h : Dz w p g n L s) :
    Calls Try.prog 32 #[.pointer (some ⟨p, 0, none⟩)] w fun e w' => e = .returned (.tuple #[]) ∧ Dz w' p g n L ⟨-1, false, s.u⟩ ∧ K2 w w' p g := by
  obtain ⟨fu, lf, hd, hz, hl⟩ := h
  refine (don_any p g n L s.gone fu lf s.u w hd).mono ?_
  rintro e w' ⟨h3, h4, h5⟩
  exact ⟨h3, ⟨false, 0, h4, .inr ⟨rfl, rfl⟩, by omega⟩, h5⟩
theorem dz_down (p g n : Nat) (L : List Nat) (s : Pw) (w : World) (h : Dz w p g n L s) :
    Calls Try.prog 38 #[.pointer (some ⟨p, 0, none⟩)] w fun e w' => e = .returned (.bool s.gone) ∧ w' = w := by
  obtain ⟨fu, lf, hd, hz, hl⟩ := h
  exact ddown_any p g n L s.gone fu lf s.u w hd
theorem dz_len (p g n : Nat) (L : List Nat) (s : Pw) (w : World) (h : Dz w p g n L s) :
    Calls Try.prog 21 #[.pointer (some ⟨p, 0, none⟩)] w fun e w' => e = .returned (.int .i64 (n : Int)) ∧ w' = w := by
  obtain ⟨fu, lf, hd, hz, hl⟩ := h
  exact dlen_any p g n L s.gone fu lf s.u w hd
theorem dz_writes (p g n : Nat) (L : List Nat) (s : Pw) (w : World) (h : Dz w p g n L s) :
    Calls Try.prog 19 #[.pointer (some ⟨p, 0, none⟩)] w fun e w' => e = .returned (.int .i64 (s.u : Int)) ∧ w' = w := by
  obtain ⟨fu, lf, hd, hz, hl⟩ := h
  exact dwrites_any p g n L s.gone fu lf s.u w hd
end Go.Proofs.Ytijbpafmokbnaaa
