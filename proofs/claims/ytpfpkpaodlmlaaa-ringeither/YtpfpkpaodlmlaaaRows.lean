/-
  No cell of these rows narrows 'for every input' (looked for: loops, veiled, ifaces, maps, wideKeys, modest, calm, conditions, laid).
  DERIVED. THE GIVEN ROWS OF THIS SEAT. 7 by the template 'for every input the law returns true; each argument reads behind the call as it read before'; 0 by the template 'total and deterministic' (their statements: YtpfpkpaodlmlaaaTotals.lean).
  GIVEN WITH THE SEED: the statements are not yours to turn. If you find one false, say at which input.
  Laid BY PROGRAM, IN A SANDBOX (cutbox-rows.mjs): the forced cells as the released guide's own fill.sh prints them over the translation 40bf3061bd9dd6cd… (all of the seat's roots in one cut). By AI agents, Wed Nov 11 2026. No macro, syntax, notation, axiom, sorry.
-/
import Derived.Test.YtpfpkpaodlmlaaaChecked
import GoSem.Claim
import GoSem.ClaimJoined
import GoSem.ClaimMapViews
import Derived.JoinedTies
import Derived.KernelRfl
namespace Go.Proofs.Ytpfpkpaodlmlaaa
/- THE CELL 'sum', in the pinned program and in every row, IS THE sha256 OF THE DUMP (.gsa) THAT YtpfpkpaodlmlaaaProg.lean LOADS. Nothing in Lean hashes anything: it is a label: what it is worth is what the hold of that sum in a sandbox is worth. -/
noncomputable def Try.pinned : Pinned := { name := "ytpfpkpaodlmlaaa", sum := "40bf3061bd9dd6cd1ad0e3fba256f7fb7167e539569fd9b0ae986715c0a0f4e0", checked := Try.checked }
namespace Rows
def none {H : Type} : Left H := { results := [], args := [] }

/-- 'cartouchelaw11.RingOrders': WHATEVER THE INPUT: true; the input reads as it did. -/
def ringOrdersSpec : ChangeSpec := { name := "ringOrders", fn := fun _ => fun
  | [d1, d2, d3] => { results := [.lit (.bool true)], args := [d1, d2, d3] }
  | _ => none }
def ringOrdersRow : OpenClaim := { program := "ytpfpkpaodlmlaaa", sum := "40bf3061bd9dd6cd1ad0e3fba256f7fb7167e539569fd9b0ae986715c0a0f4e0", func := "cartouche/cartouchelaw11.RingOrders", spec := "ringOrders", unfollowed := true, recurses := true, apart := false }
def RingOrdersSaid : Prop := ringOrdersRow.holds Try.pinned (OpenSpec.ofChange ringOrdersSpec)

/-- ITS FALSE NEIGHBOUR: 'it returns false'. Refute it at one input. -/
def ringOrdersWrong : ChangeSpec := { name := "ringOrders", fn := fun _ => fun
  | [d1, d2, d3] => { results := [.lit (.bool false)], args := [d1, d2, d3] }
  | _ => none }
def RingOrdersWrongFalsely : Prop := ringOrdersRow.holds Try.pinned (OpenSpec.ofChange ringOrdersWrong)

/-- 'cartouchelaw11.RingFinds': WHATEVER THE INPUT: true; the input reads as it did. -/
def ringFindsSpec : ChangeSpec := { name := "ringFinds", fn := fun _ => fun
  | [d] => { results := [.lit (.bool true)], args := [d] }
  | _ => none }
def ringFindsRow : OpenClaim := { program := "ytpfpkpaodlmlaaa", sum := "40bf3061bd9dd6cd1ad0e3fba256f7fb7167e539569fd9b0ae986715c0a0f4e0", func := "cartouche/cartouchelaw11.RingFinds", spec := "ringFinds", unfollowed := true, recurses := true, apart := false }
def RingFindsSaid : Prop := ringFindsRow.holds Try.pinned (OpenSpec.ofChange ringFindsSpec)

/-- ITS FALSE NEIGHBOUR: 'it returns false'. Refute it at one input. -/
def ringFindsWrong : ChangeSpec := { name := "ringFinds", fn := fun _ => fun
  | [d] => { results := [.lit (.bool false)], args := [d] }
  | _ => none }
def RingFindsWrongFalsely : Prop := ringFindsRow.holds Try.pinned (OpenSpec.ofChange ringFindsWrong)

/-- 'cartouchelaw11.RingEither': WHATEVER THE INPUT: true; the input reads as it did. -/
def ringEitherSpec : ChangeSpec := { name := "ringEither", fn := fun _ => fun
  | [d] => { results := [.lit (.bool true)], args := [d] }
  | _ => none }
def ringEitherRow : OpenClaim := { program := "ytpfpkpaodlmlaaa", sum := "40bf3061bd9dd6cd1ad0e3fba256f7fb7167e539569fd9b0ae986715c0a0f4e0", func := "cartouche/cartouchelaw11.RingEither", spec := "ringEither", unfollowed := true, recurses := true, apart := false }
def RingEitherSaid : Prop := ringEitherRow.holds Try.pinned (OpenSpec.ofChange ringEitherSpec)

/-- ITS FALSE NEIGHBOUR: 'it returns false'. Refute it at one input. -/
def ringEitherWrong : ChangeSpec := { name := "ringEither", fn := fun _ => fun
  | [d] => { results := [.lit (.bool false)], args := [d] }
  | _ => none }
def RingEitherWrongFalsely : Prop := ringEitherRow.holds Try.pinned (OpenSpec.ofChange ringEitherWrong)

/-- 'cartouchelaw11.RingMade': WHATEVER THE INPUT: true; the input reads as it did. -/
def ringMadeSpec : ChangeSpec := { name := "ringMade", fn := fun _ => fun
  | [d] => { results := [.lit (.bool true)], args := [d] }
  | _ => none }
def ringMadeRow : OpenClaim := { program := "ytpfpkpaodlmlaaa", sum := "40bf3061bd9dd6cd1ad0e3fba256f7fb7167e539569fd9b0ae986715c0a0f4e0", func := "cartouche/cartouchelaw11.RingMade", spec := "ringMade", unfollowed := true, recurses := true, apart := false }
def RingMadeSaid : Prop := ringMadeRow.holds Try.pinned (OpenSpec.ofChange ringMadeSpec)

/-- ITS FALSE NEIGHBOUR: 'it returns false'. Refute it at one input. -/
def ringMadeWrong : ChangeSpec := { name := "ringMade", fn := fun _ => fun
  | [d] => { results := [.lit (.bool false)], args := [d] }
  | _ => none }
def RingMadeWrongFalsely : Prop := ringMadeRow.holds Try.pinned (OpenSpec.ofChange ringMadeWrong)

/-- 'cartouchelaw11.RingKeeps': WHATEVER THE INPUT: true; the input reads as it did. -/
def ringKeepsSpec : ChangeSpec := { name := "ringKeeps", fn := fun _ => fun
  | [d1, d2, d3] => { results := [.lit (.bool true)], args := [d1, d2, d3] }
  | _ => none }
def ringKeepsRow : OpenClaim := { program := "ytpfpkpaodlmlaaa", sum := "40bf3061bd9dd6cd1ad0e3fba256f7fb7167e539569fd9b0ae986715c0a0f4e0", func := "cartouche/cartouchelaw11.RingKeeps", spec := "ringKeeps", unfollowed := true, recurses := true, apart := false }
def RingKeepsSaid : Prop := ringKeepsRow.holds Try.pinned (OpenSpec.ofChange ringKeepsSpec)

/-- ITS FALSE NEIGHBOUR: 'it returns false'. Refute it at one input. -/
def ringKeepsWrong : ChangeSpec := { name := "ringKeeps", fn := fun _ => fun
  | [d1, d2, d3] => { results := [.lit (.bool false)], args := [d1, d2, d3] }
  | _ => none }
def RingKeepsWrongFalsely : Prop := ringKeepsRow.holds Try.pinned (OpenSpec.ofChange ringKeepsWrong)

/-- 'cartouchelaw11.RingTurns': WHATEVER THE INPUT: true; the input reads as it did. -/
def ringTurnsSpec : ChangeSpec := { name := "ringTurns", fn := fun _ => fun
  | [d1, d2] => { results := [.lit (.bool true)], args := [d1, d2] }
  | _ => none }
def ringTurnsRow : OpenClaim := { program := "ytpfpkpaodlmlaaa", sum := "40bf3061bd9dd6cd1ad0e3fba256f7fb7167e539569fd9b0ae986715c0a0f4e0", func := "cartouche/cartouchelaw11.RingTurns", spec := "ringTurns", unfollowed := true, recurses := true, apart := false }
def RingTurnsSaid : Prop := ringTurnsRow.holds Try.pinned (OpenSpec.ofChange ringTurnsSpec)

/-- ITS FALSE NEIGHBOUR: 'it returns false'. Refute it at one input. -/
def ringTurnsWrong : ChangeSpec := { name := "ringTurns", fn := fun _ => fun
  | [d1, d2] => { results := [.lit (.bool false)], args := [d1, d2] }
  | _ => none }
def RingTurnsWrongFalsely : Prop := ringTurnsRow.holds Try.pinned (OpenSpec.ofChange ringTurnsWrong)

/-- 'cartouchelaw11.RingShort': WHATEVER THE INPUT: true; the input reads as it did. -/
def ringShortSpec : ChangeSpec := { name := "ringShort", fn := fun _ => fun
  | [d1, d2, d3] => { results := [.lit (.bool true)], args := [d1, d2, d3] }
  | _ => none }
def ringShortRow : OpenClaim := { program := "ytpfpkpaodlmlaaa", sum := "40bf3061bd9dd6cd1ad0e3fba256f7fb7167e539569fd9b0ae986715c0a0f4e0", func := "cartouche/cartouchelaw11.RingShort", spec := "ringShort", unfollowed := true, recurses := true, apart := false }
def RingShortSaid : Prop := ringShortRow.holds Try.pinned (OpenSpec.ofChange ringShortSpec)

/-- ITS FALSE NEIGHBOUR: 'it returns false'. Refute it at one input. -/
def ringShortWrong : ChangeSpec := { name := "ringShort", fn := fun _ => fun
  | [d1, d2, d3] => { results := [.lit (.bool false)], args := [d1, d2, d3] }
  | _ => none }
def RingShortWrongFalsely : Prop := ringShortRow.holds Try.pinned (OpenSpec.ofChange ringShortWrong)

/- THE SECOND FORM. 'bulk': how many values and letters a reading holds, each counted each time it is reached (what is shared counts as often as it is met; a slice's spare places count too). A statement '..UptoSaid' is the law's where the arguments, and the package variables that the reading takes, are together of bulk at most 1048576: NARROWER than '..Said'. Prove '..Said' where nothing that the law and all that it calls make is longer than what came in: it says more and counts as full. Else prove '..UptoSaid'. A law counts once. -/
mutual
def uptoBulk {H : Type} : DataW H → Nat
  | .lit (.string bytes) => bytes.length + 1
  | .lit _ => 1
  | .nil => 1
  | .ptr d => uptoBulk d + 1
  | .slice elems spare => uptoBulkAll elems + uptoBulkAll spare + 1
  | .agg parts => uptoBulkAll parts + 1
  | .iface _ d => uptoBulk d + 1
  | .map entries => uptoBulkEntries entries + 1
  | .held _ => 1
def uptoBulkAll {H : Type} : List (DataW H) → Nat
  | [] => 0
  | d :: r => uptoBulk d + uptoBulkAll r
def uptoBulkEntries {H : Type} : List (Lit × DataW H) → Nat
  | [] => 0
  | x :: r => uptoBulkEntry x + uptoBulkEntries r
def uptoBulkEntry {H : Type} : Lit × DataW H → Nat
  | (.string bytes, d) => bytes.length + uptoBulk d + 1
  | (_, d) => uptoBulk d + 1
 end
def uptoSmall : (H : Type) → List (DataW H) → Bool := fun _ ds => decide (uptoBulkAll ds ≤ 1048576)
def OpenSpec.upto (s : _root_.Go.ChangeSpec) : _root_.Go.OpenSpec := { _root_.Go.OpenSpec.ofChange s with cond := some uptoSmall }

/-- 'cartouchelaw11.RingOrders', WHERE WHAT IT READS IS OF BULK AT MOST 1048576: true; the input reads as it did. -/
def ringOrdersUptoRow : OpenClaim := { program := "ytpfpkpaodlmlaaa", sum := "40bf3061bd9dd6cd1ad0e3fba256f7fb7167e539569fd9b0ae986715c0a0f4e0", func := "cartouche/cartouchelaw11.RingOrders", spec := "ringOrders", unfollowed := true, recurses := true, apart := false, narrowed := true }
def RingOrdersUptoSaid : Prop := ringOrdersUptoRow.holds Try.pinned (OpenSpec.upto ringOrdersSpec)

/-- 'cartouchelaw11.RingFinds', WHERE WHAT IT READS IS OF BULK AT MOST 1048576: true; the input reads as it did. -/
def ringFindsUptoRow : OpenClaim := { program := "ytpfpkpaodlmlaaa", sum := "40bf3061bd9dd6cd1ad0e3fba256f7fb7167e539569fd9b0ae986715c0a0f4e0", func := "cartouche/cartouchelaw11.RingFinds", spec := "ringFinds", unfollowed := true, recurses := true, apart := false, narrowed := true }
def RingFindsUptoSaid : Prop := ringFindsUptoRow.holds Try.pinned (OpenSpec.upto ringFindsSpec)

/-- 'cartouchelaw11.RingEither', WHERE WHAT IT READS IS OF BULK AT MOST 1048576: true; the input reads as it did. -/
def ringEitherUptoRow : OpenClaim := { program := "ytpfpkpaodlmlaaa", sum := "40bf3061bd9dd6cd1ad0e3fba256f7fb7167e539569fd9b0ae986715c0a0f4e0", func := "cartouche/cartouchelaw11.RingEither", spec := "ringEither", unfollowed := true, recurses := true, apart := false, narrowed := true }
def RingEitherUptoSaid : Prop := ringEitherUptoRow.holds Try.pinned (OpenSpec.upto ringEitherSpec)

/-- 'cartouchelaw11.RingMade', WHERE WHAT IT READS IS OF BULK AT MOST 1048576: true; the input reads as it did. -/
def ringMadeUptoRow : OpenClaim := { program := "ytpfpkpaodlmlaaa", sum := "40bf3061bd9dd6cd1ad0e3fba256f7fb7167e539569fd9b0ae986715c0a0f4e0", func := "cartouche/cartouchelaw11.RingMade", spec := "ringMade", unfollowed := true, recurses := true, apart := false, narrowed := true }
def RingMadeUptoSaid : Prop := ringMadeUptoRow.holds Try.pinned (OpenSpec.upto ringMadeSpec)

/-- 'cartouchelaw11.RingKeeps', WHERE WHAT IT READS IS OF BULK AT MOST 1048576: true; the input reads as it did. -/
def ringKeepsUptoRow : OpenClaim := { program := "ytpfpkpaodlmlaaa", sum := "40bf3061bd9dd6cd1ad0e3fba256f7fb7167e539569fd9b0ae986715c0a0f4e0", func := "cartouche/cartouchelaw11.RingKeeps", spec := "ringKeeps", unfollowed := true, recurses := true, apart := false, narrowed := true }
def RingKeepsUptoSaid : Prop := ringKeepsUptoRow.holds Try.pinned (OpenSpec.upto ringKeepsSpec)

/-- 'cartouchelaw11.RingTurns', WHERE WHAT IT READS IS OF BULK AT MOST 1048576: true; the input reads as it did. -/
def ringTurnsUptoRow : OpenClaim := { program := "ytpfpkpaodlmlaaa", sum := "40bf3061bd9dd6cd1ad0e3fba256f7fb7167e539569fd9b0ae986715c0a0f4e0", func := "cartouche/cartouchelaw11.RingTurns", spec := "ringTurns", unfollowed := true, recurses := true, apart := false, narrowed := true }
def RingTurnsUptoSaid : Prop := ringTurnsUptoRow.holds Try.pinned (OpenSpec.upto ringTurnsSpec)

/-- 'cartouchelaw11.RingShort', WHERE WHAT IT READS IS OF BULK AT MOST 1048576: true; the input reads as it did. -/
def ringShortUptoRow : OpenClaim := { program := "ytpfpkpaodlmlaaa", sum := "40bf3061bd9dd6cd1ad0e3fba256f7fb7167e539569fd9b0ae986715c0a0f4e0", func := "cartouche/cartouchelaw11.RingShort", spec := "ringShort", unfollowed := true, recurses := true, apart := false, narrowed := true }
def RingShortUptoSaid : Prop := ringShortUptoRow.holds Try.pinned (OpenSpec.upto ringShortSpec)

end Rows
end Go.Proofs.Ytpfpkpaodlmlaaa
