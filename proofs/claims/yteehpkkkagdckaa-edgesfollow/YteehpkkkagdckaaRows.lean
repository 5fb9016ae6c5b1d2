/-
  No cell of these rows narrows 'for every input' (looked for: loops, veiled, ifaces, maps, wideKeys, modest, calm, conditions, laid).
  DERIVED. THE GIVEN ROWS OF THIS SEAT. 7 by the template 'for every input the law returns true; each argument reads behind the call as it read before'; 0 by the template 'total and deterministic' (their statements: YteehpkkkagdckaaTotals.lean).
  GIVEN WITH THE SEED: the statements are not yours to turn. If you find one false, say at which input.
  Laid BY PROGRAM, IN A SANDBOX (cutbox-rows.mjs): the forced cells as the released guide's own fill.sh prints them over the translation 74c82d29e0c64fc4… (all of the seat's roots in one cut). By AI agents, Wed Nov 11 2026. No macro, syntax, notation, axiom, sorry.
-/
import Derived.Test.YteehpkkkagdckaaChecked
import GoSem.Claim
import GoSem.ClaimJoined
import GoSem.ClaimMapViews
import Derived.JoinedTies
import Derived.KernelRfl
namespace Go.Proofs.Yteehpkkkagdckaa
/- THE CELL 'sum', in the pinned program and in every row, IS THE sha256 OF THE DUMP (.gsa) THAT YteehpkkkagdckaaProg.lean LOADS. Nothing in Lean hashes anything: it is a label: what it is worth is what the hold of that sum in a sandbox is worth. -/
noncomputable def Try.pinned : Pinned := { name := "yteehpkkkagdckaa", sum := "74c82d29e0c64fc45fb1acdce69f074024ef70369a0249b83d0a5592a2f62e23", checked := Try.checked }
namespace Rows
def none {H : Type} : Left H := { results := [], args := [] }

/-- 'cartouchelaw10.EdgesTell': WHATEVER THE INPUT: true; the input reads as it did. -/
def edgesTellSpec : ChangeSpec := { name := "edgesTell", fn := fun _ => fun
  | [d1, d2] => { results := [.lit (.bool true)], args := [d1, d2] }
  | _ => none }
def edgesTellRow : OpenClaim := { program := "yteehpkkkagdckaa", sum := "74c82d29e0c64fc45fb1acdce69f074024ef70369a0249b83d0a5592a2f62e23", func := "cartouche/cartouchelaw10.EdgesTell", spec := "edgesTell", unfollowed := true, recurses := true, apart := false }
def EdgesTellSaid : Prop := edgesTellRow.holds Try.pinned (OpenSpec.ofChange edgesTellSpec)

/-- ITS FALSE NEIGHBOUR: 'it returns false'. Refute it at one input. -/
def edgesTellWrong : ChangeSpec := { name := "edgesTell", fn := fun _ => fun
  | [d1, d2] => { results := [.lit (.bool false)], args := [d1, d2] }
  | _ => none }
def EdgesTellWrongFalsely : Prop := edgesTellRow.holds Try.pinned (OpenSpec.ofChange edgesTellWrong)

/-- 'cartouchelaw10.EdgesStep': WHATEVER THE INPUT: true; the input reads as it did. -/
def edgesStepSpec : ChangeSpec := { name := "edgesStep", fn := fun _ => fun
  | [d1, d2] => { results := [.lit (.bool true)], args := [d1, d2] }
  | _ => none }
def edgesStepRow : OpenClaim := { program := "yteehpkkkagdckaa", sum := "74c82d29e0c64fc45fb1acdce69f074024ef70369a0249b83d0a5592a2f62e23", func := "cartouche/cartouchelaw10.EdgesStep", spec := "edgesStep", unfollowed := true, recurses := true, apart := false }
def EdgesStepSaid : Prop := edgesStepRow.holds Try.pinned (OpenSpec.ofChange edgesStepSpec)

/-- ITS FALSE NEIGHBOUR: 'it returns false'. Refute it at one input. -/
def edgesStepWrong : ChangeSpec := { name := "edgesStep", fn := fun _ => fun
  | [d1, d2] => { results := [.lit (.bool false)], args := [d1, d2] }
  | _ => none }
def EdgesStepWrongFalsely : Prop := edgesStepRow.holds Try.pinned (OpenSpec.ofChange edgesStepWrong)

/-- 'cartouchelaw10.EdgesHold': WHATEVER THE INPUT: true; the input reads as it did. -/
def edgesHoldSpec : ChangeSpec := { name := "edgesHold", fn := fun _ => fun
  | [d] => { results := [.lit (.bool true)], args := [d] }
  | _ => none }
def edgesHoldRow : OpenClaim := { program := "yteehpkkkagdckaa", sum := "74c82d29e0c64fc45fb1acdce69f074024ef70369a0249b83d0a5592a2f62e23", func := "cartouche/cartouchelaw10.EdgesHold", spec := "edgesHold", unfollowed := true, recurses := true, apart := false }
def EdgesHoldSaid : Prop := edgesHoldRow.holds Try.pinned (OpenSpec.ofChange edgesHoldSpec)

/-- ITS FALSE NEIGHBOUR: 'it returns false'. Refute it at one input. -/
def edgesHoldWrong : ChangeSpec := { name := "edgesHold", fn := fun _ => fun
  | [d] => { results := [.lit (.bool false)], args := [d] }
  | _ => none }
def EdgesHoldWrongFalsely : Prop := edgesHoldRow.holds Try.pinned (OpenSpec.ofChange edgesHoldWrong)

/-- 'cartouchelaw10.EdgesFollow': WHATEVER THE INPUT: true; the input reads as it did. -/
def edgesFollowSpec : ChangeSpec := { name := "edgesFollow", fn := fun _ => fun
  | [d1, d2] => { results := [.lit (.bool true)], args := [d1, d2] }
  | _ => none }
def edgesFollowRow : OpenClaim := { program := "yteehpkkkagdckaa", sum := "74c82d29e0c64fc45fb1acdce69f074024ef70369a0249b83d0a5592a2f62e23", func := "cartouche/cartouchelaw10.EdgesFollow", spec := "edgesFollow", unfollowed := true, recurses := true, apart := false }
def EdgesFollowSaid : Prop := edgesFollowRow.holds Try.pinned (OpenSpec.ofChange edgesFollowSpec)

/-- ITS FALSE NEIGHBOUR: 'it returns false'. Refute it at one input. -/
def edgesFollowWrong : ChangeSpec := { name := "edgesFollow", fn := fun _ => fun
  | [d1, d2] => { results := [.lit (.bool false)], args := [d1, d2] }
  | _ => none }
def EdgesFollowWrongFalsely : Prop := edgesFollowRow.holds Try.pinned (OpenSpec.ofChange edgesFollowWrong)

/-- 'cartouchelaw10.EdgesApart': WHATEVER THE INPUT: true; the input reads as it did. -/
def edgesApartSpec : ChangeSpec := { name := "edgesApart", fn := fun _ => fun
  | [d] => { results := [.lit (.bool true)], args := [d] }
  | _ => none }
def edgesApartRow : OpenClaim := { program := "yteehpkkkagdckaa", sum := "74c82d29e0c64fc45fb1acdce69f074024ef70369a0249b83d0a5592a2f62e23", func := "cartouche/cartouchelaw10.EdgesApart", spec := "edgesApart", unfollowed := true, recurses := true, apart := false }
def EdgesApartSaid : Prop := edgesApartRow.holds Try.pinned (OpenSpec.ofChange edgesApartSpec)

/-- ITS FALSE NEIGHBOUR: 'it returns false'. Refute it at one input. -/
def edgesApartWrong : ChangeSpec := { name := "edgesApart", fn := fun _ => fun
  | [d] => { results := [.lit (.bool false)], args := [d] }
  | _ => none }
def EdgesApartWrongFalsely : Prop := edgesApartRow.holds Try.pinned (OpenSpec.ofChange edgesApartWrong)

/-- 'cartouchelaw10.EdgesReads': WHATEVER THE INPUT: true; the input reads as it did. -/
def edgesReadsSpec : ChangeSpec := { name := "edgesReads", fn := fun _ => fun
  | [d] => { results := [.lit (.bool true)], args := [d] }
  | _ => none }
def edgesReadsRow : OpenClaim := { program := "yteehpkkkagdckaa", sum := "74c82d29e0c64fc45fb1acdce69f074024ef70369a0249b83d0a5592a2f62e23", func := "cartouche/cartouchelaw10.EdgesReads", spec := "edgesReads", unfollowed := true, recurses := true, apart := false }
def EdgesReadsSaid : Prop := edgesReadsRow.holds Try.pinned (OpenSpec.ofChange edgesReadsSpec)

/-- ITS FALSE NEIGHBOUR: 'it returns false'. Refute it at one input. -/
def edgesReadsWrong : ChangeSpec := { name := "edgesReads", fn := fun _ => fun
  | [d] => { results := [.lit (.bool false)], args := [d] }
  | _ => none }
def EdgesReadsWrongFalsely : Prop := edgesReadsRow.holds Try.pinned (OpenSpec.ofChange edgesReadsWrong)

/-- 'cartouchelaw10.EdgesSteps': WHATEVER THE INPUT: true; the input reads as it did. -/
def edgesStepsSpec : ChangeSpec := { name := "edgesSteps", fn := fun _ => fun
  | [d1, d2] => { results := [.lit (.bool true)], args := [d1, d2] }
  | _ => none }
def edgesStepsRow : OpenClaim := { program := "yteehpkkkagdckaa", sum := "74c82d29e0c64fc45fb1acdce69f074024ef70369a0249b83d0a5592a2f62e23", func := "cartouche/cartouchelaw10.EdgesSteps", spec := "edgesSteps", unfollowed := true, recurses := true, apart := false }
def EdgesStepsSaid : Prop := edgesStepsRow.holds Try.pinned (OpenSpec.ofChange edgesStepsSpec)

/-- ITS FALSE NEIGHBOUR: 'it returns false'. Refute it at one input. -/
def edgesStepsWrong : ChangeSpec := { name := "edgesSteps", fn := fun _ => fun
  | [d1, d2] => { results := [.lit (.bool false)], args := [d1, d2] }
  | _ => none }
def EdgesStepsWrongFalsely : Prop := edgesStepsRow.holds Try.pinned (OpenSpec.ofChange edgesStepsWrong)

/- THE SECOND FORM. 'bulk': how many values and letters a reading holds, each counted each time it is reached (what is shared counts as often as it is met; a slice's spare places count too). A statement '..UptoSaid' is the law's where the arguments, and the package variables that the reading takes, are together of bulk at most 1048576: NARROWER than '..Said'. Prove '..Said' where nothing that the law and all that it calls make is longer than what came in: it says more and counts as full. Else prove '..UptoSaid'. A law counts once. -/
mutual
def uptoBulk {H : Type} : DataW H → Nat
  | .lit (.string bytes) => bytes.length + 1
  | .lit _ => 1
  | .nil => 1
  | .ptr d => uptoBulk d + 1
  | .slice elems spare => uptoBulkAll elems + uptoBulkAll spare + 1
  | .agg parts => uptoBulkAll parts + 1
  | .iface _ d => uptoBulk d + 1
  | .map entries => uptoBulkEntries entries + 1
  | .held _ => 1
def uptoBulkAll {H : Type} : List (DataW H) → Nat
  | [] => 0
  | d :: r => uptoBulk d + uptoBulkAll r
def uptoBulkEntries {H : Type} : List (Lit × DataW H) → Nat
  | [] => 0
  | x :: r => uptoBulkEntry x + uptoBulkEntries r
def uptoBulkEntry {H : Type} : Lit × DataW H → Nat
  | (.string bytes, d) => bytes.length + uptoBulk d + 1
  | (_, d) => uptoBulk d + 1
 end
def uptoSmall : (H : Type) → List (DataW H) → Bool := fun _ ds => decide (uptoBulkAll ds ≤ 1048576)
def OpenSpec.upto (s : _root_.Go.ChangeSpec) : _root_.Go.OpenSpec := { _root_.Go.OpenSpec.ofChange s with cond := some uptoSmall }

/-- 'cartouchelaw10.EdgesTell', WHERE WHAT IT READS IS OF BULK AT MOST 1048576: true; the input reads as it did. -/
def edgesTellUptoRow : OpenClaim := { program := "yteehpkkkagdckaa", sum := "74c82d29e0c64fc45fb1acdce69f074024ef70369a0249b83d0a5592a2f62e23", func := "cartouche/cartouchelaw10.EdgesTell", spec := "edgesTell", unfollowed := true, recurses := true, apart := false, narrowed := true }
def EdgesTellUptoSaid : Prop := edgesTellUptoRow.holds Try.pinned (OpenSpec.upto edgesTellSpec)

/-- 'cartouchelaw10.EdgesStep', WHERE WHAT IT READS IS OF BULK AT MOST 1048576: true; the input reads as it did. -/
def edgesStepUptoRow : OpenClaim := { program := "yteehpkkkagdckaa", sum := "74c82d29e0c64fc45fb1acdce69f074024ef70369a0249b83d0a5592a2f62e23", func := "cartouche/cartouchelaw10.EdgesStep", spec := "edgesStep", unfollowed := true, recurses := true, apart := false, narrowed := true }
def EdgesStepUptoSaid : Prop := edgesStepUptoRow.holds Try.pinned (OpenSpec.upto edgesStepSpec)

/-- 'cartouchelaw10.EdgesHold', WHERE WHAT IT READS IS OF BULK AT MOST 1048576: true; the input reads as it did. -/
def edgesHoldUptoRow : OpenClaim := { program := "yteehpkkkagdckaa", sum := "74c82d29e0c64fc45fb1acdce69f074024ef70369a0249b83d0a5592a2f62e23", func := "cartouche/cartouchelaw10.EdgesHold", spec := "edgesHold", unfollowed := true, recurses := true, apart := false, narrowed := true }
def EdgesHoldUptoSaid : Prop := edgesHoldUptoRow.holds Try.pinned (OpenSpec.upto edgesHoldSpec)

/-- 'cartouchelaw10.EdgesFollow', WHERE WHAT IT READS IS OF BULK AT MOST 1048576: true; the input reads as it did. -/
def edgesFollowUptoRow : OpenClaim := { program := "yteehpkkkagdckaa", sum := "74c82d29e0c64fc45fb1acdce69f074024ef70369a0249b83d0a5592a2f62e23", func := "cartouche/cartouchelaw10.EdgesFollow", spec := "edgesFollow", unfollowed := true, recurses := true, apart := false, narrowed := true }
def EdgesFollowUptoSaid : Prop := edgesFollowUptoRow.holds Try.pinned (OpenSpec.upto edgesFollowSpec)

/-- 'cartouchelaw10.EdgesApart', WHERE WHAT IT READS IS OF BULK AT MOST 1048576: true; the input reads as it did. -/
def edgesApartUptoRow : OpenClaim := { program := "yteehpkkkagdckaa", sum := "74c82d29e0c64fc45fb1acdce69f074024ef70369a0249b83d0a5592a2f62e23", func := "cartouche/cartouchelaw10.EdgesApart", spec := "edgesApart", unfollowed := true, recurses := true, apart := false, narrowed := true }
def EdgesApartUptoSaid : Prop := edgesApartUptoRow.holds Try.pinned (OpenSpec.upto edgesApartSpec)

/-- 'cartouchelaw10.EdgesReads', WHERE WHAT IT READS IS OF BULK AT MOST 1048576: true; the input reads as it did. -/
def edgesReadsUptoRow : OpenClaim := { program := "yteehpkkkagdckaa", sum := "74c82d29e0c64fc45fb1acdce69f074024ef70369a0249b83d0a5592a2f62e23", func := "cartouche/cartouchelaw10.EdgesReads", spec := "edgesReads", unfollowed := true, recurses := true, apart := false, narrowed := true }
def EdgesReadsUptoSaid : Prop := edgesReadsUptoRow.holds Try.pinned (OpenSpec.upto edgesReadsSpec)

/-- 'cartouchelaw10.EdgesSteps', WHERE WHAT IT READS IS OF BULK AT MOST 1048576: true; the input reads as it did. -/
def edgesStepsUptoRow : OpenClaim := { program := "yteehpkkkagdckaa", sum := "74c82d29e0c64fc45fb1acdce69f074024ef70369a0249b83d0a5592a2f62e23", func := "cartouche/cartouchelaw10.EdgesSteps", spec := "edgesSteps", unfollowed := true, recurses := true, apart := false, narrowed := true }
def EdgesStepsUptoSaid : Prop := edgesStepsUptoRow.holds Try.pinned (OpenSpec.upto edgesStepsSpec)

end Rows
end Go.Proofs.Yteehpkkkagdckaa
