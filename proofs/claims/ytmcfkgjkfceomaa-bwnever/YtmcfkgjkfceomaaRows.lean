/-
  No cell of these rows narrows 'for every input' (looked for: loops, veiled, ifaces, maps, wideKeys, modest, calm, conditions, laid).
  DERIVED. THE GIVEN ROWS OF THIS SEAT. 5 by the template 'for every input the law returns true; each argument reads behind the call as it read before'; 0 by the template 'total and deterministic' (their statements: YtmcfkgjkfceomaaTotals.lean).
  GIVEN WITH THE SEED: the statements are not yours to turn. If you find one false, say at which input.
  Laid BY PROGRAM, IN A SANDBOX (cutbox-rows.mjs): the forced cells as the released guide's own fill.sh prints them over the translation 6b23c5115ce4c5b5… (all of the seat's roots in one cut). By AI agents, Wed Nov 11 2026. No macro, syntax, notation, axiom, sorry.
-/
import Derived.Test.YtmcfkgjkfceomaaChecked
import GoSem.Claim
import GoSem.ClaimJoined
import GoSem.ClaimMapViews
import Derived.JoinedTies
import Derived.KernelRfl
namespace Go.Proofs.Ytmcfkgjkfceomaa
/- THE CELL 'sum', in the pinned program and in every row, IS THE sha256 OF THE DUMP (.gsa) THAT YtmcfkgjkfceomaaProg.lean LOADS. Nothing in Lean hashes anything: it is a label: what it is worth is what the hold of that sum in a sandbox is worth. -/
noncomputable def Try.pinned : Pinned := { name := "ytmcfkgjkfceomaa", sum := "6b23c5115ce4c5b53b9080efbf001bea75826c95fe7a713ad6f97b90f36a5d55", checked := Try.checked }
namespace Rows
def none {H : Type} : Left H := { results := [], args := [] }

/-- 'shamrocklaw05.BwDecodes': WHATEVER THE INPUT: true; the input reads as it did. -/
def bwDecodesSpec : ChangeSpec := { name := "bwDecodes", fn := fun _ => fun
  | [d1, d2, d3, d4] => { results := [.lit (.bool true)], args := [d1, d2, d3, d4] }
  | _ => none }
def bwDecodesRow : OpenClaim := { program := "ytmcfkgjkfceomaa", sum := "6b23c5115ce4c5b53b9080efbf001bea75826c95fe7a713ad6f97b90f36a5d55", func := "shamrock/shamrocklaw05.BwDecodes", spec := "bwDecodes", unfollowed := true, recurses := true, apart := false }
def BwDecodesSaid : Prop := bwDecodesRow.holds Try.pinned (OpenSpec.ofChange bwDecodesSpec)

/-- ITS FALSE NEIGHBOUR: 'it returns false'. Refute it at one input. -/
def bwDecodesWrong : ChangeSpec := { name := "bwDecodes", fn := fun _ => fun
  | [d1, d2, d3, d4] => { results := [.lit (.bool false)], args := [d1, d2, d3, d4] }
  | _ => none }
def BwDecodesWrongFalsely : Prop := bwDecodesRow.holds Try.pinned (OpenSpec.ofChange bwDecodesWrong)

/-- 'shamrocklaw05.BwAgrees': WHATEVER THE INPUT: true; the input reads as it did. -/
def bwAgreesSpec : ChangeSpec := { name := "bwAgrees", fn := fun _ => fun
  | [d1, d2, d3, d4] => { results := [.lit (.bool true)], args := [d1, d2, d3, d4] }
  | _ => none }
def bwAgreesRow : OpenClaim := { program := "ytmcfkgjkfceomaa", sum := "6b23c5115ce4c5b53b9080efbf001bea75826c95fe7a713ad6f97b90f36a5d55", func := "shamrock/shamrocklaw05.BwAgrees", spec := "bwAgrees", unfollowed := true, recurses := true, apart := false }
def BwAgreesSaid : Prop := bwAgreesRow.holds Try.pinned (OpenSpec.ofChange bwAgreesSpec)

/-- ITS FALSE NEIGHBOUR: 'it returns false'. Refute it at one input. -/
def bwAgreesWrong : ChangeSpec := { name := "bwAgrees", fn := fun _ => fun
  | [d1, d2, d3, d4] => { results := [.lit (.bool false)], args := [d1, d2, d3, d4] }
  | _ => none }
def BwAgreesWrongFalsely : Prop := bwAgreesRow.holds Try.pinned (OpenSpec.ofChange bwAgreesWrong)

/-- 'shamrocklaw05.BwCorrects': WHATEVER THE INPUT: true; the input reads as it did. -/
def bwCorrectsSpec : ChangeSpec := { name := "bwCorrects", fn := fun _ => fun
  | [d1, d2, d3, d4, d5] => { results := [.lit (.bool true)], args := [d1, d2, d3, d4, d5] }
  | _ => none }
def bwCorrectsRow : OpenClaim := { program := "ytmcfkgjkfceomaa", sum := "6b23c5115ce4c5b53b9080efbf001bea75826c95fe7a713ad6f97b90f36a5d55", func := "shamrock/shamrocklaw05.BwCorrects", spec := "bwCorrects", unfollowed := true, recurses := true, apart := false }
def BwCorrectsSaid : Prop := bwCorrectsRow.holds Try.pinned (OpenSpec.ofChange bwCorrectsSpec)

/-- ITS FALSE NEIGHBOUR: 'it returns false'. Refute it at one input. -/
def bwCorrectsWrong : ChangeSpec := { name := "bwCorrects", fn := fun _ => fun
  | [d1, d2, d3, d4, d5] => { results := [.lit (.bool false)], args := [d1, d2, d3, d4, d5] }
  | _ => none }
def BwCorrectsWrongFalsely : Prop := bwCorrectsRow.holds Try.pinned (OpenSpec.ofChange bwCorrectsWrong)

/-- 'shamrocklaw05.BwFew': WHATEVER THE INPUT: true; the input reads as it did. -/
def bwFewSpec : ChangeSpec := { name := "bwFew", fn := fun _ => fun
  | [d1, d2, d3, d4] => { results := [.lit (.bool true)], args := [d1, d2, d3, d4] }
  | _ => none }
def bwFewRow : OpenClaim := { program := "ytmcfkgjkfceomaa", sum := "6b23c5115ce4c5b53b9080efbf001bea75826c95fe7a713ad6f97b90f36a5d55", func := "shamrock/shamrocklaw05.BwFew", spec := "bwFew", unfollowed := true, recurses := true, apart := false }
def BwFewSaid : Prop := bwFewRow.holds Try.pinned (OpenSpec.ofChange bwFewSpec)

/-- ITS FALSE NEIGHBOUR: 'it returns false'. Refute it at one input. -/
def bwFewWrong : ChangeSpec := { name := "bwFew", fn := fun _ => fun
  | [d1, d2, d3, d4] => { results := [.lit (.bool false)], args := [d1, d2, d3, d4] }
  | _ => none }
def BwFewWrongFalsely : Prop := bwFewRow.holds Try.pinned (OpenSpec.ofChange bwFewWrong)

/-- 'shamrocklaw05.BwNever': WHATEVER THE INPUT: true; the input reads as it did. -/
def bwNeverSpec : ChangeSpec := { name := "bwNever", fn := fun _ => fun
  | [d1, d2, d3, d4, d5] => { results := [.lit (.bool true)], args := [d1, d2, d3, d4, d5] }
  | _ => none }
def bwNeverRow : OpenClaim := { program := "ytmcfkgjkfceomaa", sum := "6b23c5115ce4c5b53b9080efbf001bea75826c95fe7a713ad6f97b90f36a5d55", func := "shamrock/shamrocklaw05.BwNever", spec := "bwNever", unfollowed := true, recurses := true, apart := false }
def BwNeverSaid : Prop := bwNeverRow.holds Try.pinned (OpenSpec.ofChange bwNeverSpec)

/-- ITS FALSE NEIGHBOUR: 'it returns false'. Refute it at one input. -/
def bwNeverWrong : ChangeSpec := { name := "bwNever", fn := fun _ => fun
  | [d1, d2, d3, d4, d5] => { results := [.lit (.bool false)], args := [d1, d2, d3, d4, d5] }
  | _ => none }
def BwNeverWrongFalsely : Prop := bwNeverRow.holds Try.pinned (OpenSpec.ofChange bwNeverWrong)

/- THE SECOND FORM. 'bulk': how many values and letters a reading holds, each counted each time it is reached (what is shared counts as often as it is met; a slice's spare places count too). A statement '..UptoSaid' is the law's where the arguments, and the package variables that the reading takes, are together of bulk at most 1048576: NARROWER than '..Said'. Prove '..Said' where nothing that the law and all that it calls make is longer than what came in: it says more and counts as full. Else prove '..UptoSaid'. A law counts once. -/
mutual
def uptoBulk {H : Type} : DataW H → Nat
  | .lit (.string bytes) => bytes.length + 1
  | .lit _ => 1
  | .nil => 1
  | .ptr d => uptoBulk d + 1
  | .slice elems spare => uptoBulkAll elems + uptoBulkAll spare + 1
  | .agg parts => uptoBulkAll parts + 1
  | .iface _ d => uptoBulk d + 1
  | .map entries => uptoBulkEntries entries + 1
  | .held _ => 1
def uptoBulkAll {H : Type} : List (DataW H) → Nat
  | [] => 0
  | d :: r => uptoBulk d + uptoBulkAll r
def uptoBulkEntries {H : Type} : List (Lit × DataW H) → Nat
  | [] => 0
  | x :: r => uptoBulkEntry x + uptoBulkEntries r
def uptoBulkEntry {H : Type} : Lit × DataW H → Nat
  | (.string bytes, d) => bytes.length + uptoBulk d + 1
  | (_, d) => uptoBulk d + 1
 end
def uptoSmall : (H : Type) → List (DataW H) → Bool := fun _ ds => decide (uptoBulkAll ds ≤ 1048576)
def OpenSpec.upto (s : _root_.Go.ChangeSpec) : _root_.Go.OpenSpec := { _root_.Go.OpenSpec.ofChange s with cond := some uptoSmall }

/-- 'shamrocklaw05.BwDecodes', WHERE WHAT IT READS IS OF BULK AT MOST 1048576: true; the input reads as it did. -/
def bwDecodesUptoRow : OpenClaim := { program := "ytmcfkgjkfceomaa", sum := "6b23c5115ce4c5b53b9080efbf001bea75826c95fe7a713ad6f97b90f36a5d55", func := "shamrock/shamrocklaw05.BwDecodes", spec := "bwDecodes", unfollowed := true, recurses := true, apart := false, narrowed := true }
def BwDecodesUptoSaid : Prop := bwDecodesUptoRow.holds Try.pinned (OpenSpec.upto bwDecodesSpec)

/-- 'shamrocklaw05.BwAgrees', WHERE WHAT IT READS IS OF BULK AT MOST 1048576: true; the input reads as it did. -/
def bwAgreesUptoRow : OpenClaim := { program := "ytmcfkgjkfceomaa", sum := "6b23c5115ce4c5b53b9080efbf001bea75826c95fe7a713ad6f97b90f36a5d55", func := "shamrock/shamrocklaw05.BwAgrees", spec := "bwAgrees", unfollowed := true, recurses := true, apart := false, narrowed := true }
def BwAgreesUptoSaid : Prop := bwAgreesUptoRow.holds Try.pinned (OpenSpec.upto bwAgreesSpec)

/-- 'shamrocklaw05.BwCorrects', WHERE WHAT IT READS IS OF BULK AT MOST 1048576: true; the input reads as it did. -/
def bwCorrectsUptoRow : OpenClaim := { program := "ytmcfkgjkfceomaa", sum := "6b23c5115ce4c5b53b9080efbf001bea75826c95fe7a713ad6f97b90f36a5d55", func := "shamrock/shamrocklaw05.BwCorrects", spec := "bwCorrects", unfollowed := true, recurses := true, apart := false, narrowed := true }
def BwCorrectsUptoSaid : Prop := bwCorrectsUptoRow.holds Try.pinned (OpenSpec.upto bwCorrectsSpec)

/-- 'shamrocklaw05.BwFew', WHERE WHAT IT READS IS OF BULK AT MOST 1048576: true; the input reads as it did. -/
def bwFewUptoRow : OpenClaim := { program := "ytmcfkgjkfceomaa", sum := "6b23c5115ce4c5b53b9080efbf001bea75826c95fe7a713ad6f97b90f36a5d55", func := "shamrock/shamrocklaw05.BwFew", spec := "bwFew", unfollowed := true, recurses := true, apart := false, narrowed := true }
def BwFewUptoSaid : Prop := bwFewUptoRow.holds Try.pinned (OpenSpec.upto bwFewSpec)

/-- 'shamrocklaw05.BwNever', WHERE WHAT IT READS IS OF BULK AT MOST 1048576: true; the input reads as it did. -/
def bwNeverUptoRow : OpenClaim := { program := "ytmcfkgjkfceomaa", sum := "6b23c5115ce4c5b53b9080efbf001bea75826c95fe7a713ad6f97b90f36a5d55", func := "shamrock/shamrocklaw05.BwNever", spec := "bwNever", unfollowed := true, recurses := true, apart := false, narrowed := true }
def BwNeverUptoSaid : Prop := bwNeverUptoRow.holds Try.pinned (OpenSpec.upto bwNeverSpec)

end Rows
end Go.Proofs.Ytmcfkgjkfceomaa
