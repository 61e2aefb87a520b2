/-
  DERIVED. GIVEN WITH THE SEED: THE CARDS: each row of YtfemcofjhcanhaaDoorRows.lean that lists a variable, with what it lists TIED to the program's text (the seventh form; the later family's looks); each row that meets fmt, with fmt's text TOLD by the authors' own Lean function (tested against real Go, not proved from fmt's source: count such statements apart). THE CARD IS WHAT COUNTS. Prove the row's statement (the work); the ties are given (YtfemcofjhcanhaaDoorTie.lean); close each card by the builder's one call (the guide's Derived/Test/ToyasCard.lean, 'card_holds'). Laid BY PROGRAM, IN A SANDBOX (cutbox-door.mjs). By AI agents, Wed Nov 11 2026. No macro, syntax, notation, axiom, sorry.
-/
import Derived.Test.YtfemcofjhcanhaaDoorRows
import GoSem.ClaimSeven
namespace Go.Proofs.YtfemcofjhcanhaaDoor
namespace Rows

/-- THE TIED CARD OF 'shamrocklaw07.MacMarks'. -/
def macMarksCard : Claim7 := { stood := { row := macMarksRow, standIns := [], harness := (true, "7068a92226304329cb2b1a6d3cfb310545553c5dc42af8ae92661326ee458acb"), looks := false }, kinds := [], alts := [], laidByText := true, laidKinds := [.data], laidTests := true, laidLooks := .later }
def MacMarksCardSaid : Prop := Claim7.holds Tryd.pinned (.plain (OpenSpec.ofChange macMarksSpec)) macMarksCard

/-- THE TIED CARD OF 'shamrocklaw07.MacKeys'. -/
def macKeysCard : Claim7 := { stood := { row := macKeysRow, standIns := [], harness := (true, "7068a92226304329cb2b1a6d3cfb310545553c5dc42af8ae92661326ee458acb"), looks := false }, kinds := [], alts := [], laidByText := true, laidKinds := [.data], laidTests := true, laidLooks := .later }
def MacKeysCardSaid : Prop := Claim7.holds Tryd.pinned (.plain (OpenSpec.ofChange macKeysSpec)) macKeysCard

/-- THE TIED CARD OF 'shamrocklaw07.MacSame'. -/
def macSameCard : Claim7 := { stood := { row := macSameRow, standIns := [], harness := (true, "7068a92226304329cb2b1a6d3cfb310545553c5dc42af8ae92661326ee458acb"), looks := false }, kinds := [], alts := [], laidByText := true, laidKinds := [.data], laidTests := true, laidLooks := .later }
def MacSameCardSaid : Prop := Claim7.holds Tryd.pinned (.plain (OpenSpec.ofChange macSameSpec)) macSameCard

/-- THE TIED CARD OF 'shamrocklaw07.MacOwn'. -/
def macOwnCard : Claim7 := { stood := { row := macOwnRow, standIns := [], harness := (true, "7068a92226304329cb2b1a6d3cfb310545553c5dc42af8ae92661326ee458acb"), looks := false }, kinds := [], alts := [], laidByText := true, laidKinds := [.data], laidTests := true, laidLooks := .later }
def MacOwnCardSaid : Prop := Claim7.holds Tryd.pinned (.plain (OpenSpec.ofChange macOwnSpec)) macOwnCard

/-- THE SECOND FORM's CARD OF 'shamrocklaw07.MacMarks'. -/
def macMarksUptoCard : Claim7 := { stood := { row := macMarksUptoRow, standIns := [], harness := (true, "7068a92226304329cb2b1a6d3cfb310545553c5dc42af8ae92661326ee458acb"), looks := false }, kinds := [], alts := [], laidByText := true, laidKinds := [.data], laidTests := true, laidLooks := .later }
def MacMarksUptoCardSaid : Prop := Claim7.holds Tryd.pinned (.plain (OpenSpec.upto macMarksSpec)) macMarksUptoCard

/-- THE SECOND FORM's CARD OF 'shamrocklaw07.MacKeys'. -/
def macKeysUptoCard : Claim7 := { stood := { row := macKeysUptoRow, standIns := [], harness := (true, "7068a92226304329cb2b1a6d3cfb310545553c5dc42af8ae92661326ee458acb"), looks := false }, kinds := [], alts := [], laidByText := true, laidKinds := [.data], laidTests := true, laidLooks := .later }
def MacKeysUptoCardSaid : Prop := Claim7.holds Tryd.pinned (.plain (OpenSpec.upto macKeysSpec)) macKeysUptoCard

/-- THE SECOND FORM's CARD OF 'shamrocklaw07.MacSame'. -/
def macSameUptoCard : Claim7 := { stood := { row := macSameUptoRow, standIns := [], harness := (true, "7068a92226304329cb2b1a6d3cfb310545553c5dc42af8ae92661326ee458acb"), looks := false }, kinds := [], alts := [], laidByText := true, laidKinds := [.data], laidTests := true, laidLooks := .later }
def MacSameUptoCardSaid : Prop := Claim7.holds Tryd.pinned (.plain (OpenSpec.upto macSameSpec)) macSameUptoCard

/-- THE SECOND FORM's CARD OF 'shamrocklaw07.MacOwn'. -/
def macOwnUptoCard : Claim7 := { stood := { row := macOwnUptoRow, standIns := [], harness := (true, "7068a92226304329cb2b1a6d3cfb310545553c5dc42af8ae92661326ee458acb"), looks := false }, kinds := [], alts := [], laidByText := true, laidKinds := [.data], laidTests := true, laidLooks := .later }
def MacOwnUptoCardSaid : Prop := Claim7.holds Tryd.pinned (.plain (OpenSpec.upto macOwnSpec)) macOwnUptoCard
end Rows
end Go.Proofs.YtfemcofjhcanhaaDoor
