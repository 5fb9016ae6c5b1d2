/-
  NARROWER THAN 'FOR EVERY INPUT', by the rows' own cells (each row's printed sentence says how): PassIssues: laid · PassChecks: laid · PassLasts: laid · PassTurned: laid · PassBack: laid · PassOwn: laid · PassEqual: laid.
  DERIVED. THE GIVEN ROWS OF THIS SEAT. 7 by the template 'for every input the law returns true; each argument reads behind the call as it read before'; 0 by the template 'total and deterministic' (their statements: YtjhklkckiogobaaDoorTotals.lean).
  GIVEN WITH THE SEED: the statements are not yours to turn. If you find one false, say at which input.
  Laid BY PROGRAM, IN A SANDBOX (cutbox-rows.mjs): the forced cells as the released guide's own fill.sh prints them over the translation 57d8b3271b0c8b30… (all of the seat's roots in one cut). By AI agents, Wed Nov 11 2026. No macro, syntax, notation, axiom, sorry.
-/
import Derived.Test.YtjhklkckiogobaaDoorChecked
import GoSem.Claim
import GoSem.ClaimJoined
import GoSem.ClaimMapViews
import Derived.JoinedTies
import Derived.KernelRfl
namespace Go.Proofs.YtjhklkckiogobaaDoor
/- THE CELL 'sum', in the pinned program and in every row, IS THE sha256 OF THE DUMP (.gsa) THAT YtjhklkckiogobaaDoorProg.lean LOADS. Nothing in Lean hashes anything: it is a label: what it is worth is what the hold of that sum in a sandbox is worth. -/
noncomputable def Tryd.pinned : Pinned := { name := "ytjhklkckiogobaadoor", sum := "57d8b3271b0c8b301e2d25ef5dcfa0fe51c38e2043d3f6d2f4864edb87b5d1b6", checked := Tryd.checked }
namespace Rows
def none {H : Type} : Left H := { results := [], args := [] }

/- WHAT THE LISTED PACKAGE-LEVEL VARIABLES READ AS WHEN THE CALL BEGINS. Each datum BY PROGRAM (the guide's laid-datum.mjs) off the statement by which the dump's own 'gosem.cut.vars' lays the variable. In a bare row this is a premise. The card (YtjhklkckiogobaaDoorCards.lean) ties it to the program's text. -/
def laid_cartouche_blake_beginning {H : Type} : DataW H := .agg [.lit (.int .u32 1779033703), .lit (.int .u32 3144134277), .lit (.int .u32 1013904242), .lit (.int .u32 2773480762), .lit (.int .u32 1359893119), .lit (.int .u32 2600822924), .lit (.int .u32 528734635), .lit (.int .u32 1541459225)]
def laid_cartouche_blake_orders {H : Type} : DataW H := .agg [.lit (.int .u64 81985529216486895), .lit (.int .u64 16881918945140062035), .lit (.int .u64 13312731748010193300), .lit (.int .u64 8733003861693448440), .lit (.int .u64 10400822202260547645), .lit (.int .u64 3200383143768358425), .lit (.int .u64 14204332651957162635), .lit (.int .u64 15816291393287259690), .lit (.int .u64 8064173457993569445), .lit (.int .u64 11710614767857974480)]
def laid_cartouche_blake_mixings {H : Type} : DataW H := .agg [.agg [.lit (.int .i64 0), .lit (.int .i64 4), .lit (.int .i64 8), .lit (.int .i64 12)], .agg [.lit (.int .i64 1), .lit (.int .i64 5), .lit (.int .i64 9), .lit (.int .i64 13)], .agg [.lit (.int .i64 2), .lit (.int .i64 6), .lit (.int .i64 10), .lit (.int .i64 14)], .agg [.lit (.int .i64 3), .lit (.int .i64 7), .lit (.int .i64 11), .lit (.int .i64 15)], .agg [.lit (.int .i64 0), .lit (.int .i64 5), .lit (.int .i64 10), .lit (.int .i64 15)], .agg [.lit (.int .i64 1), .lit (.int .i64 6), .lit (.int .i64 11), .lit (.int .i64 12)], .agg [.lit (.int .i64 2), .lit (.int .i64 7), .lit (.int .i64 8), .lit (.int .i64 13)], .agg [.lit (.int .i64 3), .lit (.int .i64 4), .lit (.int .i64 9), .lit (.int .i64 14)]]

/-- 'cartouchelaw05.PassIssues': WHATEVER THE INPUT: true; the input reads as it did. -/
def passIssuesSpec : ChangeSpec := { name := "passIssues", fn := fun _ => fun
  | [d] => { results := [.lit (.bool true)], args := [d] }
  | _ => none }
def passIssuesRow : OpenClaim := { program := "ytjhklkckiogobaadoor", sum := "57d8b3271b0c8b301e2d25ef5dcfa0fe51c38e2043d3f6d2f4864edb87b5d1b6", func := "cartouche/cartouchelaw05.PassIssues", spec := "passIssues", unfollowed := true, recurses := true, named := ["cartouche/blake.beginning", "cartouche/blake.orders", "cartouche/blake.mixings"], apart := false, laid := [("cartouche/blake.beginning", laid_cartouche_blake_beginning), ("cartouche/blake.orders", laid_cartouche_blake_orders), ("cartouche/blake.mixings", laid_cartouche_blake_mixings)] }
def PassIssuesSaid : Prop := passIssuesRow.holds Tryd.pinned (OpenSpec.ofChange passIssuesSpec)

/-- ITS FALSE NEIGHBOUR: 'it returns false'. Refute it at one input. -/
def passIssuesWrong : ChangeSpec := { name := "passIssues", fn := fun _ => fun
  | [d] => { results := [.lit (.bool false)], args := [d] }
  | _ => none }
def PassIssuesWrongFalsely : Prop := passIssuesRow.holds Tryd.pinned (OpenSpec.ofChange passIssuesWrong)

/-- 'cartouchelaw05.PassChecks': WHATEVER THE INPUT: true; the input reads as it did. -/
def passChecksSpec : ChangeSpec := { name := "passChecks", fn := fun _ => fun
  | [d1, d2, d3] => { results := [.lit (.bool true)], args := [d1, d2, d3] }
  | _ => none }
def passChecksRow : OpenClaim := { program := "ytjhklkckiogobaadoor", sum := "57d8b3271b0c8b301e2d25ef5dcfa0fe51c38e2043d3f6d2f4864edb87b5d1b6", func := "cartouche/cartouchelaw05.PassChecks", spec := "passChecks", unfollowed := true, recurses := true, named := ["cartouche/blake.beginning", "cartouche/blake.orders", "cartouche/blake.mixings"], apart := false, laid := [("cartouche/blake.beginning", laid_cartouche_blake_beginning), ("cartouche/blake.orders", laid_cartouche_blake_orders), ("cartouche/blake.mixings", laid_cartouche_blake_mixings)] }
def PassChecksSaid : Prop := passChecksRow.holds Tryd.pinned (OpenSpec.ofChange passChecksSpec)

/-- ITS FALSE NEIGHBOUR: 'it returns false'. Refute it at one input. -/
def passChecksWrong : ChangeSpec := { name := "passChecks", fn := fun _ => fun
  | [d1, d2, d3] => { results := [.lit (.bool false)], args := [d1, d2, d3] }
  | _ => none }
def PassChecksWrongFalsely : Prop := passChecksRow.holds Tryd.pinned (OpenSpec.ofChange passChecksWrong)

/-- 'cartouchelaw05.PassLasts': WHATEVER THE INPUT: true; the input reads as it did. -/
def passLastsSpec : ChangeSpec := { name := "passLasts", fn := fun _ => fun
  | [d] => { results := [.lit (.bool true)], args := [d] }
  | _ => none }
def passLastsRow : OpenClaim := { program := "ytjhklkckiogobaadoor", sum := "57d8b3271b0c8b301e2d25ef5dcfa0fe51c38e2043d3f6d2f4864edb87b5d1b6", func := "cartouche/cartouchelaw05.PassLasts", spec := "passLasts", unfollowed := true, recurses := true, named := ["cartouche/blake.beginning", "cartouche/blake.orders", "cartouche/blake.mixings"], apart := false, laid := [("cartouche/blake.beginning", laid_cartouche_blake_beginning), ("cartouche/blake.orders", laid_cartouche_blake_orders), ("cartouche/blake.mixings", laid_cartouche_blake_mixings)] }
def PassLastsSaid : Prop := passLastsRow.holds Tryd.pinned (OpenSpec.ofChange passLastsSpec)

/-- ITS FALSE NEIGHBOUR: 'it returns false'. Refute it at one input. -/
def passLastsWrong : ChangeSpec := { name := "passLasts", fn := fun _ => fun
  | [d] => { results := [.lit (.bool false)], args := [d] }
  | _ => none }
def PassLastsWrongFalsely : Prop := passLastsRow.holds Tryd.pinned (OpenSpec.ofChange passLastsWrong)

/-- 'cartouchelaw05.PassTurned': WHATEVER THE INPUT: true; the input reads as it did. -/
def passTurnedSpec : ChangeSpec := { name := "passTurned", fn := fun _ => fun
  | [d] => { results := [.lit (.bool true)], args := [d] }
  | _ => none }
def passTurnedRow : OpenClaim := { program := "ytjhklkckiogobaadoor", sum := "57d8b3271b0c8b301e2d25ef5dcfa0fe51c38e2043d3f6d2f4864edb87b5d1b6", func := "cartouche/cartouchelaw05.PassTurned", spec := "passTurned", unfollowed := true, recurses := true, named := ["cartouche/blake.beginning", "cartouche/blake.orders", "cartouche/blake.mixings"], apart := false, laid := [("cartouche/blake.beginning", laid_cartouche_blake_beginning), ("cartouche/blake.orders", laid_cartouche_blake_orders), ("cartouche/blake.mixings", laid_cartouche_blake_mixings)] }
def PassTurnedSaid : Prop := passTurnedRow.holds Tryd.pinned (OpenSpec.ofChange passTurnedSpec)

/-- ITS FALSE NEIGHBOUR: 'it returns false'. Refute it at one input. -/
def passTurnedWrong : ChangeSpec := { name := "passTurned", fn := fun _ => fun
  | [d] => { results := [.lit (.bool false)], args := [d] }
  | _ => none }
def PassTurnedWrongFalsely : Prop := passTurnedRow.holds Tryd.pinned (OpenSpec.ofChange passTurnedWrong)

/-- 'cartouchelaw05.PassBack': WHATEVER THE INPUT: true; the input reads as it did. -/
def passBackSpec : ChangeSpec := { name := "passBack", fn := fun _ => fun
  | [d1, d2, d3] => { results := [.lit (.bool true)], args := [d1, d2, d3] }
  | _ => none }
def passBackRow : OpenClaim := { program := "ytjhklkckiogobaadoor", sum := "57d8b3271b0c8b301e2d25ef5dcfa0fe51c38e2043d3f6d2f4864edb87b5d1b6", func := "cartouche/cartouchelaw05.PassBack", spec := "passBack", unfollowed := true, recurses := true, named := ["cartouche/blake.beginning", "cartouche/blake.orders", "cartouche/blake.mixings"], apart := false, laid := [("cartouche/blake.beginning", laid_cartouche_blake_beginning), ("cartouche/blake.orders", laid_cartouche_blake_orders), ("cartouche/blake.mixings", laid_cartouche_blake_mixings)] }
def PassBackSaid : Prop := passBackRow.holds Tryd.pinned (OpenSpec.ofChange passBackSpec)

/-- ITS FALSE NEIGHBOUR: 'it returns false'. Refute it at one input. -/
def passBackWrong : ChangeSpec := { name := "passBack", fn := fun _ => fun
  | [d1, d2, d3] => { results := [.lit (.bool false)], args := [d1, d2, d3] }
  | _ => none }
def PassBackWrongFalsely : Prop := passBackRow.holds Tryd.pinned (OpenSpec.ofChange passBackWrong)

/-- 'cartouchelaw05.PassOwn': WHATEVER THE INPUT: true; the input reads as it did. -/
def passOwnSpec : ChangeSpec := { name := "passOwn", fn := fun _ => fun
  | [d] => { results := [.lit (.bool true)], args := [d] }
  | _ => none }
def passOwnRow : OpenClaim := { program := "ytjhklkckiogobaadoor", sum := "57d8b3271b0c8b301e2d25ef5dcfa0fe51c38e2043d3f6d2f4864edb87b5d1b6", func := "cartouche/cartouchelaw05.PassOwn", spec := "passOwn", unfollowed := true, recurses := true, named := ["cartouche/blake.beginning", "cartouche/blake.orders", "cartouche/blake.mixings"], apart := false, laid := [("cartouche/blake.beginning", laid_cartouche_blake_beginning), ("cartouche/blake.orders", laid_cartouche_blake_orders), ("cartouche/blake.mixings", laid_cartouche_blake_mixings)] }
def PassOwnSaid : Prop := passOwnRow.holds Tryd.pinned (OpenSpec.ofChange passOwnSpec)

/-- ITS FALSE NEIGHBOUR: 'it returns false'. Refute it at one input. -/
def passOwnWrong : ChangeSpec := { name := "passOwn", fn := fun _ => fun
  | [d] => { results := [.lit (.bool false)], args := [d] }
  | _ => none }
def PassOwnWrongFalsely : Prop := passOwnRow.holds Tryd.pinned (OpenSpec.ofChange passOwnWrong)

/-- 'cartouchelaw05.PassEqual': WHATEVER THE INPUT: true; the input reads as it did. -/
def passEqualSpec : ChangeSpec := { name := "passEqual", fn := fun _ => fun
  | [d1, d2] => { results := [.lit (.bool true)], args := [d1, d2] }
  | _ => none }
def passEqualRow : OpenClaim := { program := "ytjhklkckiogobaadoor", sum := "57d8b3271b0c8b301e2d25ef5dcfa0fe51c38e2043d3f6d2f4864edb87b5d1b6", func := "cartouche/cartouchelaw05.PassEqual", spec := "passEqual", unfollowed := true, recurses := true, named := ["cartouche/blake.beginning", "cartouche/blake.orders", "cartouche/blake.mixings"], apart := false, laid := [("cartouche/blake.beginning", laid_cartouche_blake_beginning), ("cartouche/blake.orders", laid_cartouche_blake_orders), ("cartouche/blake.mixings", laid_cartouche_blake_mixings)] }
def PassEqualSaid : Prop := passEqualRow.holds Tryd.pinned (OpenSpec.ofChange passEqualSpec)

/-- ITS FALSE NEIGHBOUR: 'it returns false'. Refute it at one input. -/
def passEqualWrong : ChangeSpec := { name := "passEqual", fn := fun _ => fun
  | [d1, d2] => { results := [.lit (.bool false)], args := [d1, d2] }
  | _ => none }
def PassEqualWrongFalsely : Prop := passEqualRow.holds Tryd.pinned (OpenSpec.ofChange passEqualWrong)

/- THE SECOND FORM. 'bulk': how many values and letters a reading holds, each counted each time it is reached (what is shared counts as often as it is met; a slice's spare places count too). A statement '..UptoSaid' is the law's where the arguments, and the package variables that the reading takes, are together of bulk at most 1048576: NARROWER than '..Said'. Prove '..Said' where nothing that the law and all that it calls make is longer than what came in: it says more and counts as full. Else prove '..UptoSaid'. A law counts once. -/
mutual
def uptoBulk {H : Type} : DataW H → Nat
  | .lit (.string bytes) => bytes.length + 1
  | .lit _ => 1
  | .nil => 1
  | .ptr d => uptoBulk d + 1
  | .slice elems spare => uptoBulkAll elems + uptoBulkAll spare + 1
  | .agg parts => uptoBulkAll parts + 1
  | .iface _ d => uptoBulk d + 1
  | .map entries => uptoBulkEntries entries + 1
  | .held _ => 1
def uptoBulkAll {H : Type} : List (DataW H) → Nat
  | [] => 0
  | d :: r => uptoBulk d + uptoBulkAll r
def uptoBulkEntries {H : Type} : List (Lit × DataW H) → Nat
  | [] => 0
  | x :: r => uptoBulkEntry x + uptoBulkEntries r
def uptoBulkEntry {H : Type} : Lit × DataW H → Nat
  | (.string bytes, d) => bytes.length + uptoBulk d + 1
  | (_, d) => uptoBulk d + 1
 end
def uptoSmall : (H : Type) → List (DataW H) → Bool := fun _ ds => decide (uptoBulkAll ds ≤ 1048576)
def OpenSpec.upto (s : _root_.Go.ChangeSpec) : _root_.Go.OpenSpec := { _root_.Go.OpenSpec.ofChange s with cond := some uptoSmall }

/-- 'cartouchelaw05.PassIssues', WHERE WHAT IT READS IS OF BULK AT MOST 1048576: true; the input reads as it did. -/
def passIssuesUptoRow : OpenClaim := { program := "ytjhklkckiogobaadoor", sum := "57d8b3271b0c8b301e2d25ef5dcfa0fe51c38e2043d3f6d2f4864edb87b5d1b6", func := "cartouche/cartouchelaw05.PassIssues", spec := "passIssues", unfollowed := true, recurses := true, named := ["cartouche/blake.beginning", "cartouche/blake.orders", "cartouche/blake.mixings"], apart := false, laid := [("cartouche/blake.beginning", laid_cartouche_blake_beginning), ("cartouche/blake.orders", laid_cartouche_blake_orders), ("cartouche/blake.mixings", laid_cartouche_blake_mixings)], narrowed := true }
def PassIssuesUptoSaid : Prop := passIssuesUptoRow.holds Tryd.pinned (OpenSpec.upto passIssuesSpec)

/-- 'cartouchelaw05.PassChecks', WHERE WHAT IT READS IS OF BULK AT MOST 1048576: true; the input reads as it did. -/
def passChecksUptoRow : OpenClaim := { program := "ytjhklkckiogobaadoor", sum := "57d8b3271b0c8b301e2d25ef5dcfa0fe51c38e2043d3f6d2f4864edb87b5d1b6", func := "cartouche/cartouchelaw05.PassChecks", spec := "passChecks", unfollowed := true, recurses := true, named := ["cartouche/blake.beginning", "cartouche/blake.orders", "cartouche/blake.mixings"], apart := false, laid := [("cartouche/blake.beginning", laid_cartouche_blake_beginning), ("cartouche/blake.orders", laid_cartouche_blake_orders), ("cartouche/blake.mixings", laid_cartouche_blake_mixings)], narrowed := true }
def PassChecksUptoSaid : Prop := passChecksUptoRow.holds Tryd.pinned (OpenSpec.upto passChecksSpec)

/-- 'cartouchelaw05.PassLasts', WHERE WHAT IT READS IS OF BULK AT MOST 1048576: true; the input reads as it did. -/
def passLastsUptoRow : OpenClaim := { program := "ytjhklkckiogobaadoor", sum := "57d8b3271b0c8b301e2d25ef5dcfa0fe51c38e2043d3f6d2f4864edb87b5d1b6", func := "cartouche/cartouchelaw05.PassLasts", spec := "passLasts", unfollowed := true, recurses := true, named := ["cartouche/blake.beginning", "cartouche/blake.orders", "cartouche/blake.mixings"], apart := false, laid := [("cartouche/blake.beginning", laid_cartouche_blake_beginning), ("cartouche/blake.orders", laid_cartouche_blake_orders), ("cartouche/blake.mixings", laid_cartouche_blake_mixings)], narrowed := true }
def PassLastsUptoSaid : Prop := passLastsUptoRow.holds Tryd.pinned (OpenSpec.upto passLastsSpec)

/-- 'cartouchelaw05.PassTurned', WHERE WHAT IT READS IS OF BULK AT MOST 1048576: true; the input reads as it did. -/
def passTurnedUptoRow : OpenClaim := { program := "ytjhklkckiogobaadoor", sum := "57d8b3271b0c8b301e2d25ef5dcfa0fe51c38e2043d3f6d2f4864edb87b5d1b6", func := "cartouche/cartouchelaw05.PassTurned", spec := "passTurned", unfollowed := true, recurses := true, named := ["cartouche/blake.beginning", "cartouche/blake.orders", "cartouche/blake.mixings"], apart := false, laid := [("cartouche/blake.beginning", laid_cartouche_blake_beginning), ("cartouche/blake.orders", laid_cartouche_blake_orders), ("cartouche/blake.mixings", laid_cartouche_blake_mixings)], narrowed := true }
def PassTurnedUptoSaid : Prop := passTurnedUptoRow.holds Tryd.pinned (OpenSpec.upto passTurnedSpec)

/-- 'cartouchelaw05.PassBack', WHERE WHAT IT READS IS OF BULK AT MOST 1048576: true; the input reads as it did. -/
def passBackUptoRow : OpenClaim := { program := "ytjhklkckiogobaadoor", sum := "57d8b3271b0c8b301e2d25ef5dcfa0fe51c38e2043d3f6d2f4864edb87b5d1b6", func := "cartouche/cartouchelaw05.PassBack", spec := "passBack", unfollowed := true, recurses := true, named := ["cartouche/blake.beginning", "cartouche/blake.orders", "cartouche/blake.mixings"], apart := false, laid := [("cartouche/blake.beginning", laid_cartouche_blake_beginning), ("cartouche/blake.orders", laid_cartouche_blake_orders), ("cartouche/blake.mixings", laid_cartouche_blake_mixings)], narrowed := true }
def PassBackUptoSaid : Prop := passBackUptoRow.holds Tryd.pinned (OpenSpec.upto passBackSpec)

/-- 'cartouchelaw05.PassOwn', WHERE WHAT IT READS IS OF BULK AT MOST 1048576: true; the input reads as it did. -/
def passOwnUptoRow : OpenClaim := { program := "ytjhklkckiogobaadoor", sum := "57d8b3271b0c8b301e2d25ef5dcfa0fe51c38e2043d3f6d2f4864edb87b5d1b6", func := "cartouche/cartouchelaw05.PassOwn", spec := "passOwn", unfollowed := true, recurses := true, named := ["cartouche/blake.beginning", "cartouche/blake.orders", "cartouche/blake.mixings"], apart := false, laid := [("cartouche/blake.beginning", laid_cartouche_blake_beginning), ("cartouche/blake.orders", laid_cartouche_blake_orders), ("cartouche/blake.mixings", laid_cartouche_blake_mixings)], narrowed := true }
def PassOwnUptoSaid : Prop := passOwnUptoRow.holds Tryd.pinned (OpenSpec.upto passOwnSpec)

/-- 'cartouchelaw05.PassEqual', WHERE WHAT IT READS IS OF BULK AT MOST 1048576: true; the input reads as it did. -/
def passEqualUptoRow : OpenClaim := { program := "ytjhklkckiogobaadoor", sum := "57d8b3271b0c8b301e2d25ef5dcfa0fe51c38e2043d3f6d2f4864edb87b5d1b6", func := "cartouche/cartouchelaw05.PassEqual", spec := "passEqual", unfollowed := true, recurses := true, named := ["cartouche/blake.beginning", "cartouche/blake.orders", "cartouche/blake.mixings"], apart := false, laid := [("cartouche/blake.beginning", laid_cartouche_blake_beginning), ("cartouche/blake.orders", laid_cartouche_blake_orders), ("cartouche/blake.mixings", laid_cartouche_blake_mixings)], narrowed := true }
def PassEqualUptoSaid : Prop := passEqualUptoRow.holds Tryd.pinned (OpenSpec.upto passEqualSpec)

end Rows
end Go.Proofs.YtjhklkckiogobaaDoor
