/- Tapes as the statements use them: letters for what is made, and bytes as strings. -/
import Derived.Test.YtcgpkfppphgkkaaTpc
namespace Go.Proofs.Ytcgpkfppphgkkaa
open Go.RowKit Go.Shelf Gw Pol
theorem str_app (l m : List Nat) : str (l ++ m) = str l ++ str m := by
  apply ByteArray.ext
  simp [str, strOfNums, nums]
theorem str_size (l : List Nat) : (str l).size = l.length := by
  show (str l).data.size = l.length
  simp [str, strOfNums, nums]
theorem conv_n {w : World} {base : Nat} {e : TypeId} {A : Option Addr} {c n : Nat} {l : List Nat} (h : Gw.Own w base e A c l) (hn : n = l.length) : (convert 25 9 (.slice A n c)).run Try.prog w = .ok (.string (str l)) w := by
  subst hn; exact conv_sl (P := Try.prog) h.sl Try.underlying25 Try.underlying5 Try.underlying9 c
theorem conv_i {w : World} {B : Nat} {A : Option Addr} {c n : Nat} {l : List Nat} (h : Sl w B A l) (hn : n = l.length) : (convert 25 9 (.slice A n c)).run Try.prog w = .ok (.string (str l)) w := by
  subst hn; exact conv_sl (P := Try.prog) h Try.underlying25 Try.underlying5 Try.underlying9 c
/-- New. -/
theorem tnew' (w : World) : Calls Try.prog 7 #[] w fun e w1 => e = .returned (.pointer (some ⟨w.heap.size, 0, none⟩)) ∧ Tp w1 w.heap.size w.heap.size [] 0 ∧ Below w.heap.size w w1 ∧ w.heap.size < w1.heap.size := by
  refine (tnew_any w).mono ?_
  rintro e w1 ⟨rfl, rfl⟩
  exact ⟨rfl, Tp.new w _, (Below.refl _ _).alloc (Nat.le_refl _) _, by simp⟩
/-- The first Add. -/
theorem tadd' (p g u : Nat) (A : Option Addr) (m c : Nat) (b : List Nat) (w : World) (h : Tp w p g [] u) (hm : m = b.length) (hI : In w w.heap.size A c b) (hl : b.length ≤ 65536) :
    Calls Try.prog 8 #[.pointer (some ⟨p, 0, none⟩), .slice A m c] w fun e w' => e = .returned (.int .i64 0) ∧ ∃ g', Tp w' p g' b u ∧ (g' = g ∨ w.heap.size ≤ g') ∧ K2 w w' p g :=
  tadd_any p g u [] A m c b w h hm hI (by simpa using hl)
/-- Take, letters for the rests. -/
theorem ttake' (p g u k U : Nat) (l x r : List Nat) (w : World) (h : Tp w p g l u) (hk : k ≤ l.length) (hu : u + k ≤ 9223372036854775807) (hx : x = l.take k) (hr : r = l.drop k) (hU : U = u + k) :
    Calls Try.prog 9 #[.pointer (some ⟨p, 0, none⟩), .int .i64 (k : Int)] w fun e w' => ∃ A2 c2, e = .returned (.tuple #[.slice A2 k c2, .bool true]) ∧ Gw.Own w' w.heap.size 5 A2 c2 x ∧ Tp w' p g r U ∧ K2 w w' p g := by
  subst hx hr hU; exact ttake_any p g u k l w h hk hu
end Go.Proofs.Ytcgpkfppphgkkaa
