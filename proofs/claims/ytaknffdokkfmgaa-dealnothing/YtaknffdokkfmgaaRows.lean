/-
  No cell of these rows narrows 'for every input' (looked for: loops, veiled, ifaces, maps, wideKeys, modest, calm, conditions, laid).
  DERIVED. THE GIVEN ROWS OF THIS SEAT. 8 by the template 'for every input the law returns true; each argument reads behind the call as it read before'; 0 by the template 'total and deterministic' (their statements: YtaknffdokkfmgaaTotals.lean).
  GIVEN WITH THE SEED: the statements are not yours to turn. If you find one false, say at which input.
  Laid BY PROGRAM, IN A SANDBOX (cutbox-rows.mjs): the forced cells as the released guide's own fill.sh prints them over the translation ea0b0a951cdbb427… (all of the seat's roots in one cut). By AI agents, Wed Nov 11 2026. No macro, syntax, notation, axiom, sorry.
-/
import Derived.Test.YtaknffdokkfmgaaChecked
import GoSem.Claim
import GoSem.ClaimJoined
import GoSem.ClaimMapViews
import Derived.JoinedTies
import Derived.KernelRfl
namespace Go.Proofs.Ytaknffdokkfmgaa
/- THE CELL 'sum', in the pinned program and in every row, IS THE sha256 OF THE DUMP (.gsa) THAT YtaknffdokkfmgaaProg.lean LOADS. Nothing in Lean hashes anything: it is a label: what it is worth is what the hold of that sum in a sandbox is worth. -/
noncomputable def Try.pinned : Pinned := { name := "ytaknffdokkfmgaa", sum := "ea0b0a951cdbb427a0db161c3ef8c78dd76dad8aae37c253b883ff92bed7f47d", checked := Try.checked }
namespace Rows
def none {H : Type} : Left H := { results := [], args := [] }

/-- 'shamrocklaw10.DealParams': WHATEVER THE INPUT: true; the input reads as it did. -/
def dealParamsSpec : ChangeSpec := { name := "dealParams", fn := fun _ => fun
  | [d] => { results := [.lit (.bool true)], args := [d] }
  | _ => none }
def dealParamsRow : OpenClaim := { program := "ytaknffdokkfmgaa", sum := "ea0b0a951cdbb427a0db161c3ef8c78dd76dad8aae37c253b883ff92bed7f47d", func := "shamrock/shamrocklaw10.DealParams", spec := "dealParams", unfollowed := true, recurses := true, apart := false }
def DealParamsSaid : Prop := dealParamsRow.holds Try.pinned (OpenSpec.ofChange dealParamsSpec)

/-- ITS FALSE NEIGHBOUR: 'it returns false'. Refute it at one input. -/
def dealParamsWrong : ChangeSpec := { name := "dealParams", fn := fun _ => fun
  | [d] => { results := [.lit (.bool false)], args := [d] }
  | _ => none }
def DealParamsWrongFalsely : Prop := dealParamsRow.holds Try.pinned (OpenSpec.ofChange dealParamsWrong)

/-- 'shamrocklaw10.DealPoints': WHATEVER THE INPUT: true; the input reads as it did. -/
def dealPointsSpec : ChangeSpec := { name := "dealPoints", fn := fun _ => fun
  | [d1, d2, d3, d4] => { results := [.lit (.bool true)], args := [d1, d2, d3, d4] }
  | _ => none }
def dealPointsRow : OpenClaim := { program := "ytaknffdokkfmgaa", sum := "ea0b0a951cdbb427a0db161c3ef8c78dd76dad8aae37c253b883ff92bed7f47d", func := "shamrock/shamrocklaw10.DealPoints", spec := "dealPoints", unfollowed := true, recurses := true, apart := false }
def DealPointsSaid : Prop := dealPointsRow.holds Try.pinned (OpenSpec.ofChange dealPointsSpec)

/-- ITS FALSE NEIGHBOUR: 'it returns false'. Refute it at one input. -/
def dealPointsWrong : ChangeSpec := { name := "dealPoints", fn := fun _ => fun
  | [d1, d2, d3, d4] => { results := [.lit (.bool false)], args := [d1, d2, d3, d4] }
  | _ => none }
def DealPointsWrongFalsely : Prop := dealPointsRow.holds Try.pinned (OpenSpec.ofChange dealPointsWrong)

/-- 'shamrocklaw10.DealShares': WHATEVER THE INPUT: true; the input reads as it did. -/
def dealSharesSpec : ChangeSpec := { name := "dealShares", fn := fun _ => fun
  | [d1, d2, d3] => { results := [.lit (.bool true)], args := [d1, d2, d3] }
  | _ => none }
def dealSharesRow : OpenClaim := { program := "ytaknffdokkfmgaa", sum := "ea0b0a951cdbb427a0db161c3ef8c78dd76dad8aae37c253b883ff92bed7f47d", func := "shamrock/shamrocklaw10.DealShares", spec := "dealShares", unfollowed := true, recurses := true, apart := false }
def DealSharesSaid : Prop := dealSharesRow.holds Try.pinned (OpenSpec.ofChange dealSharesSpec)

/-- ITS FALSE NEIGHBOUR: 'it returns false'. Refute it at one input. -/
def dealSharesWrong : ChangeSpec := { name := "dealShares", fn := fun _ => fun
  | [d1, d2, d3] => { results := [.lit (.bool false)], args := [d1, d2, d3] }
  | _ => none }
def DealSharesWrongFalsely : Prop := dealSharesRow.holds Try.pinned (OpenSpec.ofChange dealSharesWrong)

/-- 'shamrocklaw10.DealOthers': WHATEVER THE INPUT: true; the input reads as it did. -/
def dealOthersSpec : ChangeSpec := { name := "dealOthers", fn := fun _ => fun
  | [d1, d2, d3, d4] => { results := [.lit (.bool true)], args := [d1, d2, d3, d4] }
  | _ => none }
def dealOthersRow : OpenClaim := { program := "ytaknffdokkfmgaa", sum := "ea0b0a951cdbb427a0db161c3ef8c78dd76dad8aae37c253b883ff92bed7f47d", func := "shamrock/shamrocklaw10.DealOthers", spec := "dealOthers", unfollowed := true, recurses := true, apart := false }
def DealOthersSaid : Prop := dealOthersRow.holds Try.pinned (OpenSpec.ofChange dealOthersSpec)

/-- ITS FALSE NEIGHBOUR: 'it returns false'. Refute it at one input. -/
def dealOthersWrong : ChangeSpec := { name := "dealOthers", fn := fun _ => fun
  | [d1, d2, d3, d4] => { results := [.lit (.bool false)], args := [d1, d2, d3, d4] }
  | _ => none }
def DealOthersWrongFalsely : Prop := dealOthersRow.holds Try.pinned (OpenSpec.ofChange dealOthersWrong)

/-- 'shamrocklaw10.DealSecret': WHATEVER THE INPUT: true; the input reads as it did. -/
def dealSecretSpec : ChangeSpec := { name := "dealSecret", fn := fun _ => fun
  | [d1, d2, d3, d4] => { results := [.lit (.bool true)], args := [d1, d2, d3, d4] }
  | _ => none }
def dealSecretRow : OpenClaim := { program := "ytaknffdokkfmgaa", sum := "ea0b0a951cdbb427a0db161c3ef8c78dd76dad8aae37c253b883ff92bed7f47d", func := "shamrock/shamrocklaw10.DealSecret", spec := "dealSecret", unfollowed := true, recurses := true, apart := false }
def DealSecretSaid : Prop := dealSecretRow.holds Try.pinned (OpenSpec.ofChange dealSecretSpec)

/-- ITS FALSE NEIGHBOUR: 'it returns false'. Refute it at one input. -/
def dealSecretWrong : ChangeSpec := { name := "dealSecret", fn := fun _ => fun
  | [d1, d2, d3, d4] => { results := [.lit (.bool false)], args := [d1, d2, d3, d4] }
  | _ => none }
def DealSecretWrongFalsely : Prop := dealSecretRow.holds Try.pinned (OpenSpec.ofChange dealSecretWrong)

/-- 'shamrocklaw10.DealNothing': WHATEVER THE INPUT: true; the input reads as it did. -/
def dealNothingSpec : ChangeSpec := { name := "dealNothing", fn := fun _ => fun
  | [d1, d2, d3, d4, d5] => { results := [.lit (.bool true)], args := [d1, d2, d3, d4, d5] }
  | _ => none }
def dealNothingRow : OpenClaim := { program := "ytaknffdokkfmgaa", sum := "ea0b0a951cdbb427a0db161c3ef8c78dd76dad8aae37c253b883ff92bed7f47d", func := "shamrock/shamrocklaw10.DealNothing", spec := "dealNothing", unfollowed := true, recurses := true, apart := false }
def DealNothingSaid : Prop := dealNothingRow.holds Try.pinned (OpenSpec.ofChange dealNothingSpec)

/-- ITS FALSE NEIGHBOUR: 'it returns false'. Refute it at one input. -/
def dealNothingWrong : ChangeSpec := { name := "dealNothing", fn := fun _ => fun
  | [d1, d2, d3, d4, d5] => { results := [.lit (.bool false)], args := [d1, d2, d3, d4, d5] }
  | _ => none }
def DealNothingWrongFalsely : Prop := dealNothingRow.holds Try.pinned (OpenSpec.ofChange dealNothingWrong)

/-- 'shamrocklaw10.DealSums': WHATEVER THE INPUT: true; the input reads as it did. -/
def dealSumsSpec : ChangeSpec := { name := "dealSums", fn := fun _ => fun
  | [d1, d2, d3, d4] => { results := [.lit (.bool true)], args := [d1, d2, d3, d4] }
  | _ => none }
def dealSumsRow : OpenClaim := { program := "ytaknffdokkfmgaa", sum := "ea0b0a951cdbb427a0db161c3ef8c78dd76dad8aae37c253b883ff92bed7f47d", func := "shamrock/shamrocklaw10.DealSums", spec := "dealSums", unfollowed := true, recurses := true, apart := false }
def DealSumsSaid : Prop := dealSumsRow.holds Try.pinned (OpenSpec.ofChange dealSumsSpec)

/-- ITS FALSE NEIGHBOUR: 'it returns false'. Refute it at one input. -/
def dealSumsWrong : ChangeSpec := { name := "dealSums", fn := fun _ => fun
  | [d1, d2, d3, d4] => { results := [.lit (.bool false)], args := [d1, d2, d3, d4] }
  | _ => none }
def DealSumsWrongFalsely : Prop := dealSumsRow.holds Try.pinned (OpenSpec.ofChange dealSumsWrong)

/-- 'shamrocklaw10.DealZeros': WHATEVER THE INPUT: true; the input reads as it did. -/
def dealZerosSpec : ChangeSpec := { name := "dealZeros", fn := fun _ => fun
  | [d1, d2, d3, d4] => { results := [.lit (.bool true)], args := [d1, d2, d3, d4] }
  | _ => none }
def dealZerosRow : OpenClaim := { program := "ytaknffdokkfmgaa", sum := "ea0b0a951cdbb427a0db161c3ef8c78dd76dad8aae37c253b883ff92bed7f47d", func := "shamrock/shamrocklaw10.DealZeros", spec := "dealZeros", unfollowed := true, recurses := true, apart := false }
def DealZerosSaid : Prop := dealZerosRow.holds Try.pinned (OpenSpec.ofChange dealZerosSpec)

/-- ITS FALSE NEIGHBOUR: 'it returns false'. Refute it at one input. -/
def dealZerosWrong : ChangeSpec := { name := "dealZeros", fn := fun _ => fun
  | [d1, d2, d3, d4] => { results := [.lit (.bool false)], args := [d1, d2, d3, d4] }
  | _ => none }
def DealZerosWrongFalsely : Prop := dealZerosRow.holds Try.pinned (OpenSpec.ofChange dealZerosWrong)

/- THE SECOND FORM. 'bulk': how many values and letters a reading holds, each counted each time it is reached (what is shared counts as often as it is met; a slice's spare places count too). A statement '..UptoSaid' is the law's where the arguments, and the package variables that the reading takes, are together of bulk at most 1048576: NARROWER than '..Said'. Prove '..Said' where nothing that the law and all that it calls make is longer than what came in: it says more and counts as full. Else prove '..UptoSaid'. A law counts once. -/
mutual
def uptoBulk {H : Type} : DataW H → Nat
  | .lit (.string bytes) => bytes.length + 1
  | .lit _ => 1
  | .nil => 1
  | .ptr d => uptoBulk d + 1
  | .slice elems spare => uptoBulkAll elems + uptoBulkAll spare + 1
  | .agg parts => uptoBulkAll parts + 1
  | .iface _ d => uptoBulk d + 1
  | .map entries => uptoBulkEntries entries + 1
  | .held _ => 1
def uptoBulkAll {H : Type} : List (DataW H) → Nat
  | [] => 0
  | d :: r => uptoBulk d + uptoBulkAll r
def uptoBulkEntries {H : Type} : List (Lit × DataW H) → Nat
  | [] => 0
  | x :: r => uptoBulkEntry x + uptoBulkEntries r
def uptoBulkEntry {H : Type} : Lit × DataW H → Nat
  | (.string bytes, d) => bytes.length + uptoBulk d + 1
  | (_, d) => uptoBulk d + 1
 end
def uptoSmall : (H : Type) → List (DataW H) → Bool := fun _ ds => decide (uptoBulkAll ds ≤ 1048576)
def OpenSpec.upto (s : _root_.Go.ChangeSpec) : _root_.Go.OpenSpec := { _root_.Go.OpenSpec.ofChange s with cond := some uptoSmall }

/-- 'shamrocklaw10.DealParams', WHERE WHAT IT READS IS OF BULK AT MOST 1048576: true; the input reads as it did. -/
def dealParamsUptoRow : OpenClaim := { program := "ytaknffdokkfmgaa", sum := "ea0b0a951cdbb427a0db161c3ef8c78dd76dad8aae37c253b883ff92bed7f47d", func := "shamrock/shamrocklaw10.DealParams", spec := "dealParams", unfollowed := true, recurses := true, apart := false, narrowed := true }
def DealParamsUptoSaid : Prop := dealParamsUptoRow.holds Try.pinned (OpenSpec.upto dealParamsSpec)

/-- 'shamrocklaw10.DealPoints', WHERE WHAT IT READS IS OF BULK AT MOST 1048576: true; the input reads as it did. -/
def dealPointsUptoRow : OpenClaim := { program := "ytaknffdokkfmgaa", sum := "ea0b0a951cdbb427a0db161c3ef8c78dd76dad8aae37c253b883ff92bed7f47d", func := "shamrock/shamrocklaw10.DealPoints", spec := "dealPoints", unfollowed := true, recurses := true, apart := false, narrowed := true }
def DealPointsUptoSaid : Prop := dealPointsUptoRow.holds Try.pinned (OpenSpec.upto dealPointsSpec)

/-- 'shamrocklaw10.DealShares', WHERE WHAT IT READS IS OF BULK AT MOST 1048576: true; the input reads as it did. -/
def dealSharesUptoRow : OpenClaim := { program := "ytaknffdokkfmgaa", sum := "ea0b0a951cdbb427a0db161c3ef8c78dd76dad8aae37c253b883ff92bed7f47d", func := "shamrock/shamrocklaw10.DealShares", spec := "dealShares", unfollowed := true, recurses := true, apart := false, narrowed := true }
def DealSharesUptoSaid : Prop := dealSharesUptoRow.holds Try.pinned (OpenSpec.upto dealSharesSpec)

/-- 'shamrocklaw10.DealOthers', WHERE WHAT IT READS IS OF BULK AT MOST 1048576: true; the input reads as it did. -/
def dealOthersUptoRow : OpenClaim := { program := "ytaknffdokkfmgaa", sum := "ea0b0a951cdbb427a0db161c3ef8c78dd76dad8aae37c253b883ff92bed7f47d", func := "shamrock/shamrocklaw10.DealOthers", spec := "dealOthers", unfollowed := true, recurses := true, apart := false, narrowed := true }
def DealOthersUptoSaid : Prop := dealOthersUptoRow.holds Try.pinned (OpenSpec.upto dealOthersSpec)

/-- 'shamrocklaw10.DealSecret', WHERE WHAT IT READS IS OF BULK AT MOST 1048576: true; the input reads as it did. -/
def dealSecretUptoRow : OpenClaim := { program := "ytaknffdokkfmgaa", sum := "ea0b0a951cdbb427a0db161c3ef8c78dd76dad8aae37c253b883ff92bed7f47d", func := "shamrock/shamrocklaw10.DealSecret", spec := "dealSecret", unfollowed := true, recurses := true, apart := false, narrowed := true }
def DealSecretUptoSaid : Prop := dealSecretUptoRow.holds Try.pinned (OpenSpec.upto dealSecretSpec)

/-- 'shamrocklaw10.DealNothing', WHERE WHAT IT READS IS OF BULK AT MOST 1048576: true; the input reads as it did. -/
def dealNothingUptoRow : OpenClaim := { program := "ytaknffdokkfmgaa", sum := "ea0b0a951cdbb427a0db161c3ef8c78dd76dad8aae37c253b883ff92bed7f47d", func := "shamrock/shamrocklaw10.DealNothing", spec := "dealNothing", unfollowed := true, recurses := true, apart := false, narrowed := true }
def DealNothingUptoSaid : Prop := dealNothingUptoRow.holds Try.pinned (OpenSpec.upto dealNothingSpec)

/-- 'shamrocklaw10.DealSums', WHERE WHAT IT READS IS OF BULK AT MOST 1048576: true; the input reads as it did. -/
def dealSumsUptoRow : OpenClaim := { program := "ytaknffdokkfmgaa", sum := "ea0b0a951cdbb427a0db161c3ef8c78dd76dad8aae37c253b883ff92bed7f47d", func := "shamrock/shamrocklaw10.DealSums", spec := "dealSums", unfollowed := true, recurses := true, apart := false, narrowed := true }
def DealSumsUptoSaid : Prop := dealSumsUptoRow.holds Try.pinned (OpenSpec.upto dealSumsSpec)

/-- 'shamrocklaw10.DealZeros', WHERE WHAT IT READS IS OF BULK AT MOST 1048576: true; the input reads as it did. -/
def dealZerosUptoRow : OpenClaim := { program := "ytaknffdokkfmgaa", sum := "ea0b0a951cdbb427a0db161c3ef8c78dd76dad8aae37c253b883ff92bed7f47d", func := "shamrock/shamrocklaw10.DealZeros", spec := "dealZeros", unfollowed := true, recurses := true, apart := false, narrowed := true }
def DealZerosUptoSaid : Prop := dealZerosUptoRow.holds Try.pinned (OpenSpec.upto dealZerosSpec)

end Rows
end Go.Proofs.Ytaknffdokkfmgaa
