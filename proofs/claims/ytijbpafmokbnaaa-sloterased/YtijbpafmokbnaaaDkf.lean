/- Blocks of a disk in numbers: what was laid, what stayed. -/
import Derived.Test.YtijbpafmokbnaaaDkc
namespace Go.Proofs.Ytijbpafmokbnaaa
open Go.RowKit Go.Shelf Gw Pol
theorem laid_get {L b : List Nat} {o : Nat} (k : Nat) (h : o + b.length ≤ L.length) : (laid L o b)[k]? = if k < o then L[k]? else if k < o + b.length then b[k - o]? else L[k]? := by
  unfold laid
  have h1 : (L.take o).length = o := by rw [List.length_take]; omega
  by_cases c1 : k < o
  · rw [if_pos c1, List.getElem?_append_left (by omega), List.getElem?_take, if_pos c1]
  · rw [if_neg c1, List.getElem?_append_right (by omega), h1]
    by_cases c2 : k < o + b.length
    · rw [if_pos c2, List.getElem?_append_left (by omega)]
    · rw [if_neg c2, List.getElem?_append_right (by omega), List.getElem?_drop]
      congr 1
      omega
theorem piece_get (X : List Nat) (j t : Nat) : (piece X j)[t]? = if t < 32 then X[j * 32 + t]? else none := by
  unfold piece
  rw [List.getElem?_take, List.getElem?_drop]
theorem piece_laid_ne {X b : List Nat} {i j : Nat} (hb : b.length = 32) (h : i * 32 + 32 ≤ X.length) (hij : i ≠ j) : piece (laid X (i * 32) b) j = piece X j := by
  apply List.ext_getElem?
  intro t
  rw [piece_get, piece_get]
  split
  · rw [laid_get _ (by omega)]
    by_cases c : i < j
    · rw [if_neg (by omega), if_neg (by omega)]
    · rw [if_pos (by omega)]
  · rfl
theorem piece_laid_eq {X b : List Nat} {i : Nat} (hb : b.length = 32) (h : i * 32 + 32 ≤ X.length) : piece (laid X (i * 32) b) i = b := by
  unfold piece
  have := laid_same (L := X) (b := b) (o := i * 32) (by omega)
  rwa [hb] at this
theorem piece_noughts {m j : Nat} (h : j < m) : piece (List.replicate (32 * m) 0) j = z32 := by
  unfold piece z32
  rw [List.drop_replicate, List.take_replicate]
  congr 1
  omega
/-- The first i blocks are b. -/
def fill (L b : List Nat) : Nat → List Nat
  | 0 => L
  | i + 1 => laid (fill L b i) (i * 32) b
theorem fill_len {L b : List Nat} (hb : b.length = 32) : ∀ (i : Nat), i * 32 ≤ L.length → (fill L b i).length = L.length
  | 0, _ => rfl
  | i + 1, h => by
    have ih := fill_len (L := L) (b := b) hb i (by omega)
    show (laid (fill L b i) (i * 32) b).length = _
    rw [laid_len (L := fill L b i) (b := b) (o := i * 32) (by omega), ih]
theorem fill_hi {L b : List Nat} (hb : b.length = 32) : ∀ (i j : Nat), i ≤ j → i * 32 ≤ L.length → piece (fill L b i) j = piece L j
  | 0, _, _, _ => rfl
  | i + 1, j, h, hl => by
    show piece (laid (fill L b i) (i * 32) b) j = _
    rw [piece_laid_ne hb (by rw [fill_len (L := L) (b := b) hb i (by omega)]; omega) (by omega)]
    exact fill_hi hb i j (by omega) (by omega)
theorem fill_lo {L b : List Nat} (hb : b.length = 32) : ∀ (i j : Nat), j < i → i * 32 ≤ L.length → piece (fill L b i) j = b
  | 0, _, h, _ => by omega
  | i + 1, j, h, hl => by
    show piece (laid (fill L b i) (i * 32) b) j = _
    have hl2 : i * 32 + 32 ≤ (fill L b i).length := by rw [fill_len (L := L) (b := b) hb i (by omega)]; omega
    by_cases c : j = i
    · subst c; exact piece_laid_eq hb hl2
    · rw [piece_laid_ne hb hl2 (by omega)]
      exact fill_lo hb i j (by omega) (by omega)
end Go.Proofs.Ytijbpafmokbnaaa
