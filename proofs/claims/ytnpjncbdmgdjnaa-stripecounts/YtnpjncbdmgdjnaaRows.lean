/-
  No cell of these rows narrows 'for every input' (looked for: loops, veiled, ifaces, maps, wideKeys, modest, calm, conditions, laid).
  DERIVED. THE GIVEN ROWS OF THIS SEAT. 5 by the template 'for every input the law returns true; each argument reads behind the call as it read before'; 0 by the template 'total and deterministic' (their statements: YtnpjncbdmgdjnaaTotals.lean).
  GIVEN WITH THE SEED: the statements are not yours to turn. If you find one false, say at which input.
  Laid BY PROGRAM, IN A SANDBOX (cutbox-rows.mjs): the forced cells as the released guide's own fill.sh prints them over the translation 7d2799a847e6a3be… (all of the seat's roots in one cut). By AI agents, Wed Nov 11 2026. No macro, syntax, notation, axiom, sorry.
-/
import Derived.Test.YtnpjncbdmgdjnaaChecked
import GoSem.Claim
import GoSem.ClaimJoined
import GoSem.ClaimMapViews
import Derived.JoinedTies
import Derived.KernelRfl
namespace Go.Proofs.Ytnpjncbdmgdjnaa
/- THE CELL 'sum', in the pinned program and in every row, IS THE sha256 OF THE DUMP (.gsa) THAT YtnpjncbdmgdjnaaProg.lean LOADS. Nothing in Lean hashes anything: it is a label: what it is worth is what the hold of that sum in a sandbox is worth. -/
noncomputable def Try.pinned : Pinned := { name := "ytnpjncbdmgdjnaa", sum := "7d2799a847e6a3be081a839d62a3a1729760fe216a6f1eb46071d2c8feaac5e5", checked := Try.checked }
namespace Rows
def none {H : Type} : Left H := { results := [], args := [] }

/-- 'shamrocklaw09.StripeSplits': WHATEVER THE INPUT: true; the input reads as it did. -/
def stripeSplitsSpec : ChangeSpec := { name := "stripeSplits", fn := fun _ => fun
  | [d1, d2] => { results := [.lit (.bool true)], args := [d1, d2] }
  | _ => none }
def stripeSplitsRow : OpenClaim := { program := "ytnpjncbdmgdjnaa", sum := "7d2799a847e6a3be081a839d62a3a1729760fe216a6f1eb46071d2c8feaac5e5", func := "shamrock/shamrocklaw09.StripeSplits", spec := "stripeSplits", unfollowed := true, recurses := true, apart := false }
def StripeSplitsSaid : Prop := stripeSplitsRow.holds Try.pinned (OpenSpec.ofChange stripeSplitsSpec)

/-- ITS FALSE NEIGHBOUR: 'it returns false'. Refute it at one input. -/
def stripeSplitsWrong : ChangeSpec := { name := "stripeSplits", fn := fun _ => fun
  | [d1, d2] => { results := [.lit (.bool false)], args := [d1, d2] }
  | _ => none }
def StripeSplitsWrongFalsely : Prop := stripeSplitsRow.holds Try.pinned (OpenSpec.ofChange stripeSplitsWrong)

/-- 'shamrocklaw09.StripeCounts': WHATEVER THE INPUT: true; the input reads as it did. -/
def stripeCountsSpec : ChangeSpec := { name := "stripeCounts", fn := fun _ => fun
  | [d1, d2] => { results := [.lit (.bool true)], args := [d1, d2] }
  | _ => none }
def stripeCountsRow : OpenClaim := { program := "ytnpjncbdmgdjnaa", sum := "7d2799a847e6a3be081a839d62a3a1729760fe216a6f1eb46071d2c8feaac5e5", func := "shamrock/shamrocklaw09.StripeCounts", spec := "stripeCounts", unfollowed := true, recurses := true, apart := false }
def StripeCountsSaid : Prop := stripeCountsRow.holds Try.pinned (OpenSpec.ofChange stripeCountsSpec)

/-- ITS FALSE NEIGHBOUR: 'it returns false'. Refute it at one input. -/
def stripeCountsWrong : ChangeSpec := { name := "stripeCounts", fn := fun _ => fun
  | [d1, d2] => { results := [.lit (.bool false)], args := [d1, d2] }
  | _ => none }
def StripeCountsWrongFalsely : Prop := stripeCountsRow.holds Try.pinned (OpenSpec.ofChange stripeCountsWrong)

/-- 'shamrocklaw09.StripeJoins': WHATEVER THE INPUT: true; the input reads as it did. -/
def stripeJoinsSpec : ChangeSpec := { name := "stripeJoins", fn := fun _ => fun
  | [d1, d2, d3] => { results := [.lit (.bool true)], args := [d1, d2, d3] }
  | _ => none }
def stripeJoinsRow : OpenClaim := { program := "ytnpjncbdmgdjnaa", sum := "7d2799a847e6a3be081a839d62a3a1729760fe216a6f1eb46071d2c8feaac5e5", func := "shamrock/shamrocklaw09.StripeJoins", spec := "stripeJoins", unfollowed := true, recurses := true, apart := false }
def StripeJoinsSaid : Prop := stripeJoinsRow.holds Try.pinned (OpenSpec.ofChange stripeJoinsSpec)

/-- ITS FALSE NEIGHBOUR: 'it returns false'. Refute it at one input. -/
def stripeJoinsWrong : ChangeSpec := { name := "stripeJoins", fn := fun _ => fun
  | [d1, d2, d3] => { results := [.lit (.bool false)], args := [d1, d2, d3] }
  | _ => none }
def StripeJoinsWrongFalsely : Prop := stripeJoinsRow.holds Try.pinned (OpenSpec.ofChange stripeJoinsWrong)

/-- 'shamrocklaw09.StripeOwn': WHATEVER THE INPUT: true; the input reads as it did. -/
def stripeOwnSpec : ChangeSpec := { name := "stripeOwn", fn := fun _ => fun
  | [d1, d2] => { results := [.lit (.bool true)], args := [d1, d2] }
  | _ => none }
def stripeOwnRow : OpenClaim := { program := "ytnpjncbdmgdjnaa", sum := "7d2799a847e6a3be081a839d62a3a1729760fe216a6f1eb46071d2c8feaac5e5", func := "shamrock/shamrocklaw09.StripeOwn", spec := "stripeOwn", unfollowed := true, recurses := true, apart := false }
def StripeOwnSaid : Prop := stripeOwnRow.holds Try.pinned (OpenSpec.ofChange stripeOwnSpec)

/-- ITS FALSE NEIGHBOUR: 'it returns false'. Refute it at one input. -/
def stripeOwnWrong : ChangeSpec := { name := "stripeOwn", fn := fun _ => fun
  | [d1, d2] => { results := [.lit (.bool false)], args := [d1, d2] }
  | _ => none }
def StripeOwnWrongFalsely : Prop := stripeOwnRow.holds Try.pinned (OpenSpec.ofChange stripeOwnWrong)

/-- 'shamrocklaw09.StripeEnds': WHATEVER THE INPUT: true; the input reads as it did. -/
def stripeEndsSpec : ChangeSpec := { name := "stripeEnds", fn := fun _ => fun
  | [d1, d2, d3] => { results := [.lit (.bool true)], args := [d1, d2, d3] }
  | _ => none }
def stripeEndsRow : OpenClaim := { program := "ytnpjncbdmgdjnaa", sum := "7d2799a847e6a3be081a839d62a3a1729760fe216a6f1eb46071d2c8feaac5e5", func := "shamrock/shamrocklaw09.StripeEnds", spec := "stripeEnds", unfollowed := true, recurses := true, apart := false }
def StripeEndsSaid : Prop := stripeEndsRow.holds Try.pinned (OpenSpec.ofChange stripeEndsSpec)

/-- ITS FALSE NEIGHBOUR: 'it returns false'. Refute it at one input. -/
def stripeEndsWrong : ChangeSpec := { name := "stripeEnds", fn := fun _ => fun
  | [d1, d2, d3] => { results := [.lit (.bool false)], args := [d1, d2, d3] }
  | _ => none }
def StripeEndsWrongFalsely : Prop := stripeEndsRow.holds Try.pinned (OpenSpec.ofChange stripeEndsWrong)

/- THE SECOND FORM. 'bulk': how many values and letters a reading holds, each counted each time it is reached (what is shared counts as often as it is met; a slice's spare places count too). A statement '..UptoSaid' is the law's where the arguments, and the package variables that the reading takes, are together of bulk at most 1048576: NARROWER than '..Said'. Prove '..Said' where nothing that the law and all that it calls make is longer than what came in: it says more and counts as full. Else prove '..UptoSaid'. A law counts once. -/
mutual
def uptoBulk {H : Type} : DataW H → Nat
  | .lit (.string bytes) => bytes.length + 1
  | .lit _ => 1
  | .nil => 1
  | .ptr d => uptoBulk d + 1
  | .slice elems spare => uptoBulkAll elems + uptoBulkAll spare + 1
  | .agg parts => uptoBulkAll parts + 1
  | .iface _ d => uptoBulk d + 1
  | .map entries => uptoBulkEntries entries + 1
  | .held _ => 1
def uptoBulkAll {H : Type} : List (DataW H) → Nat
  | [] => 0
  | d :: r => uptoBulk d + uptoBulkAll r
def uptoBulkEntries {H : Type} : List (Lit × DataW H) → Nat
  | [] => 0
  | x :: r => uptoBulkEntry x + uptoBulkEntries r
def uptoBulkEntry {H : Type} : Lit × DataW H → Nat
  | (.string bytes, d) => bytes.length + uptoBulk d + 1
  | (_, d) => uptoBulk d + 1
 end
def uptoSmall : (H : Type) → List (DataW H) → Bool := fun _ ds => decide (uptoBulkAll ds ≤ 1048576)
def OpenSpec.upto (s : _root_.Go.ChangeSpec) : _root_.Go.OpenSpec := { _root_.Go.OpenSpec.ofChange s with cond := some uptoSmall }

/-- 'shamrocklaw09.StripeSplits', WHERE WHAT IT READS IS OF BULK AT MOST 1048576: true; the input reads as it did. -/
def stripeSplitsUptoRow : OpenClaim := { program := "ytnpjncbdmgdjnaa", sum := "7d2799a847e6a3be081a839d62a3a1729760fe216a6f1eb46071d2c8feaac5e5", func := "shamrock/shamrocklaw09.StripeSplits", spec := "stripeSplits", unfollowed := true, recurses := true, apart := false, narrowed := true }
def StripeSplitsUptoSaid : Prop := stripeSplitsUptoRow.holds Try.pinned (OpenSpec.upto stripeSplitsSpec)

/-- 'shamrocklaw09.StripeCounts', WHERE WHAT IT READS IS OF BULK AT MOST 1048576: true; the input reads as it did. -/
def stripeCountsUptoRow : OpenClaim := { program := "ytnpjncbdmgdjnaa", sum := "7d2799a847e6a3be081a839d62a3a1729760fe216a6f1eb46071d2c8feaac5e5", func := "shamrock/shamrocklaw09.StripeCounts", spec := "stripeCounts", unfollowed := true, recurses := true, apart := false, narrowed := true }
def StripeCountsUptoSaid : Prop := stripeCountsUptoRow.holds Try.pinned (OpenSpec.upto stripeCountsSpec)

/-- 'shamrocklaw09.StripeJoins', WHERE WHAT IT READS IS OF BULK AT MOST 1048576: true; the input reads as it did. -/
def stripeJoinsUptoRow : OpenClaim := { program := "ytnpjncbdmgdjnaa", sum := "7d2799a847e6a3be081a839d62a3a1729760fe216a6f1eb46071d2c8feaac5e5", func := "shamrock/shamrocklaw09.StripeJoins", spec := "stripeJoins", unfollowed := true, recurses := true, apart := false, narrowed := true }
def StripeJoinsUptoSaid : Prop := stripeJoinsUptoRow.holds Try.pinned (OpenSpec.upto stripeJoinsSpec)

/-- 'shamrocklaw09.StripeOwn', WHERE WHAT IT READS IS OF BULK AT MOST 1048576: true; the input reads as it did. -/
def stripeOwnUptoRow : OpenClaim := { program := "ytnpjncbdmgdjnaa", sum := "7d2799a847e6a3be081a839d62a3a1729760fe216a6f1eb46071d2c8feaac5e5", func := "shamrock/shamrocklaw09.StripeOwn", spec := "stripeOwn", unfollowed := true, recurses := true, apart := false, narrowed := true }
def StripeOwnUptoSaid : Prop := stripeOwnUptoRow.holds Try.pinned (OpenSpec.upto stripeOwnSpec)

/-- 'shamrocklaw09.StripeEnds', WHERE WHAT IT READS IS OF BULK AT MOST 1048576: true; the input reads as it did. -/
def stripeEndsUptoRow : OpenClaim := { program := "ytnpjncbdmgdjnaa", sum := "7d2799a847e6a3be081a839d62a3a1729760fe216a6f1eb46071d2c8feaac5e5", func := "shamrock/shamrocklaw09.StripeEnds", spec := "stripeEnds", unfollowed := true, recurses := true, apart := false, narrowed := true }
def StripeEndsUptoSaid : Prop := stripeEndsUptoRow.holds Try.pinned (OpenSpec.upto stripeEndsSpec)

end Rows
end Go.Proofs.Ytnpjncbdmgdjnaa
