/- What the program's slot does: every call of it. -/
import Derived.Test.YtijbpafmokbnaaaSky
namespace Go.Proofs.Ytijbpafmokbnaaa
open Go.RowKit Go.Shelf Gw Pol
theorem zstart_any (a p g r side : Nat) (L K : List Nat) (s : Pw) (w : World) (h : Sz w a p g r L s) (hd : Sd r L side K) (hu : s.u < 2305843009213693952) :
    Calls Try.prog 13 #[.pointer (some ⟨a, 0, none⟩)] w fun e w' => ∃ L' u', e = .returned (.tuple #[]) ∧ Sz w' a p g r L' ⟨-1, false, u'⟩ ∧ Sd r L' side K ∧ Cl r L' side ∧ u' ≤ s.u + r ∧ K3 w w' a p g :=
  callsIn_wide.1 (zstart_in a p g r side L K s w h hd hu)
end Go.Proofs.Ytijbpafmokbnaaa
