/-
  No cell of these rows narrows 'for every input' (looked for: loops, veiled, ifaces, maps, wideKeys, modest, calm, conditions, laid).
  DERIVED. THE GIVEN ROWS OF THIS SEAT. 7 by the template 'for every input the law returns true; each argument reads behind the call as it read before'; 0 by the template 'total and deterministic' (their statements: YtdlcimfifkhllaaGreatTotals.lean).
  GIVEN WITH THE SEED: the statements are not yours to turn. If you find one false, say at which input.
  Laid BY PROGRAM, IN A SANDBOX (cutbox-rows.mjs): the forced cells as the released guide's own fill.sh prints them over the translation dfb2a1da0dad4609… (all of the seat's roots in one cut). By AI agents, Wed Nov 11 2026. No macro, syntax, notation, axiom, sorry.
-/
import Derived.Test.YtdlcimfifkhllaaGreatChecked
import GoSem.Claim
import GoSem.ClaimJoined
import GoSem.ClaimMapViews
import Derived.JoinedTies
import Derived.KernelRfl
namespace Go.Proofs.YtdlcimfifkhllaaGreat
/- THE CELL 'sum', in the pinned program and in every row, IS THE sha256 OF THE DUMP (.gsa) THAT YtdlcimfifkhllaaGreatProg.lean LOADS. Nothing in Lean hashes anything: it is a label: what it is worth is what the hold of that sum in a sandbox is worth. -/
noncomputable def Tryz.pinned : Pinned := { name := "ytdlcimfifkhllaagreat", sum := "dfb2a1da0dad46096d026a9e670dcf755ae40d4976b5f7a76a957a82a114b07c", checked := Tryz.checked }
namespace Rows
def none {H : Type} : Left H := { results := [], args := [] }

/-- 'cartouchelaw13.CheckTells': WHATEVER THE INPUT: true; the input reads as it did. -/
def checkTellsSpec : ChangeSpec := { name := "checkTells", fn := fun _ => fun
  | [d1, d2] => { results := [.lit (.bool true)], args := [d1, d2] }
  | _ => none }
def checkTellsRow : OpenClaim := { program := "ytdlcimfifkhllaagreat", sum := "dfb2a1da0dad46096d026a9e670dcf755ae40d4976b5f7a76a957a82a114b07c", func := "cartouche/cartouchelaw13.CheckTells", spec := "checkTells", unfollowed := true, recurses := true, apart := false }
def CheckTellsSaid : Prop := checkTellsRow.holds Tryz.pinned (OpenSpec.ofChange checkTellsSpec)

/-- ITS FALSE NEIGHBOUR: 'it returns false'. Refute it at one input. -/
def checkTellsWrong : ChangeSpec := { name := "checkTells", fn := fun _ => fun
  | [d1, d2] => { results := [.lit (.bool false)], args := [d1, d2] }
  | _ => none }
def CheckTellsWrongFalsely : Prop := checkTellsRow.holds Tryz.pinned (OpenSpec.ofChange checkTellsWrong)

/-- 'cartouchelaw13.CheckRight': WHATEVER THE INPUT: true; the input reads as it did. -/
def checkRightSpec : ChangeSpec := { name := "checkRight", fn := fun _ => fun
  | [d1, d2] => { results := [.lit (.bool true)], args := [d1, d2] }
  | _ => none }
def checkRightRow : OpenClaim := { program := "ytdlcimfifkhllaagreat", sum := "dfb2a1da0dad46096d026a9e670dcf755ae40d4976b5f7a76a957a82a114b07c", func := "cartouche/cartouchelaw13.CheckRight", spec := "checkRight", unfollowed := true, recurses := true, apart := false }
def CheckRightSaid : Prop := checkRightRow.holds Tryz.pinned (OpenSpec.ofChange checkRightSpec)

/-- ITS FALSE NEIGHBOUR: 'it returns false'. Refute it at one input. -/
def checkRightWrong : ChangeSpec := { name := "checkRight", fn := fun _ => fun
  | [d1, d2] => { results := [.lit (.bool false)], args := [d1, d2] }
  | _ => none }
def CheckRightWrongFalsely : Prop := checkRightRow.holds Tryz.pinned (OpenSpec.ofChange checkRightWrong)

/-- 'cartouchelaw13.CheckTakes': WHATEVER THE INPUT: true; the input reads as it did. -/
def checkTakesSpec : ChangeSpec := { name := "checkTakes", fn := fun _ => fun
  | [d1, d2] => { results := [.lit (.bool true)], args := [d1, d2] }
  | _ => none }
def checkTakesRow : OpenClaim := { program := "ytdlcimfifkhllaagreat", sum := "dfb2a1da0dad46096d026a9e670dcf755ae40d4976b5f7a76a957a82a114b07c", func := "cartouche/cartouchelaw13.CheckTakes", spec := "checkTakes", unfollowed := true, recurses := true, apart := false }
def CheckTakesSaid : Prop := checkTakesRow.holds Tryz.pinned (OpenSpec.ofChange checkTakesSpec)

/-- ITS FALSE NEIGHBOUR: 'it returns false'. Refute it at one input. -/
def checkTakesWrong : ChangeSpec := { name := "checkTakes", fn := fun _ => fun
  | [d1, d2] => { results := [.lit (.bool false)], args := [d1, d2] }
  | _ => none }
def CheckTakesWrongFalsely : Prop := checkTakesRow.holds Tryz.pinned (OpenSpec.ofChange checkTakesWrong)

/-- 'cartouchelaw13.CheckTurned': WHATEVER THE INPUT: true; the input reads as it did. -/
def checkTurnedSpec : ChangeSpec := { name := "checkTurned", fn := fun _ => fun
  | [d1, d2, d3] => { results := [.lit (.bool true)], args := [d1, d2, d3] }
  | _ => none }
def checkTurnedRow : OpenClaim := { program := "ytdlcimfifkhllaagreat", sum := "dfb2a1da0dad46096d026a9e670dcf755ae40d4976b5f7a76a957a82a114b07c", func := "cartouche/cartouchelaw13.CheckTurned", spec := "checkTurned", unfollowed := true, recurses := true, apart := false }
def CheckTurnedSaid : Prop := checkTurnedRow.holds Tryz.pinned (OpenSpec.ofChange checkTurnedSpec)

/-- ITS FALSE NEIGHBOUR: 'it returns false'. Refute it at one input. -/
def checkTurnedWrong : ChangeSpec := { name := "checkTurned", fn := fun _ => fun
  | [d1, d2, d3] => { results := [.lit (.bool false)], args := [d1, d2, d3] }
  | _ => none }
def CheckTurnedWrongFalsely : Prop := checkTurnedRow.holds Tryz.pinned (OpenSpec.ofChange checkTurnedWrong)

/-- 'cartouchelaw13.CheckTurns': WHATEVER THE INPUT: true; the input reads as it did. -/
def checkTurnsSpec : ChangeSpec := { name := "checkTurns", fn := fun _ => fun
  | [d] => { results := [.lit (.bool true)], args := [d] }
  | _ => none }
def checkTurnsRow : OpenClaim := { program := "ytdlcimfifkhllaagreat", sum := "dfb2a1da0dad46096d026a9e670dcf755ae40d4976b5f7a76a957a82a114b07c", func := "cartouche/cartouchelaw13.CheckTurns", spec := "checkTurns", unfollowed := true, recurses := true, apart := false }
def CheckTurnsSaid : Prop := checkTurnsRow.holds Tryz.pinned (OpenSpec.ofChange checkTurnsSpec)

/-- ITS FALSE NEIGHBOUR: 'it returns false'. Refute it at one input. -/
def checkTurnsWrong : ChangeSpec := { name := "checkTurns", fn := fun _ => fun
  | [d] => { results := [.lit (.bool false)], args := [d] }
  | _ => none }
def CheckTurnsWrongFalsely : Prop := checkTurnsRow.holds Tryz.pinned (OpenSpec.ofChange checkTurnsWrong)

/-- 'cartouchelaw13.CheckLevels': WHATEVER THE INPUT: true; the input reads as it did. -/
def checkLevelsSpec : ChangeSpec := { name := "checkLevels", fn := fun _ => fun
  | [d1, d2, d3] => { results := [.lit (.bool true)], args := [d1, d2, d3] }
  | _ => none }
def checkLevelsRow : OpenClaim := { program := "ytdlcimfifkhllaagreat", sum := "dfb2a1da0dad46096d026a9e670dcf755ae40d4976b5f7a76a957a82a114b07c", func := "cartouche/cartouchelaw13.CheckLevels", spec := "checkLevels", unfollowed := true, recurses := true, apart := false }
def CheckLevelsSaid : Prop := checkLevelsRow.holds Tryz.pinned (OpenSpec.ofChange checkLevelsSpec)

/-- ITS FALSE NEIGHBOUR: 'it returns false'. Refute it at one input. -/
def checkLevelsWrong : ChangeSpec := { name := "checkLevels", fn := fun _ => fun
  | [d1, d2, d3] => { results := [.lit (.bool false)], args := [d1, d2, d3] }
  | _ => none }
def CheckLevelsWrongFalsely : Prop := checkLevelsRow.holds Tryz.pinned (OpenSpec.ofChange checkLevelsWrong)

/-- 'cartouchelaw13.CheckNodes': WHATEVER THE INPUT: true; the input reads as it did. -/
def checkNodesSpec : ChangeSpec := { name := "checkNodes", fn := fun _ => fun
  | [d1, d2, d3] => { results := [.lit (.bool true)], args := [d1, d2, d3] }
  | _ => none }
def checkNodesRow : OpenClaim := { program := "ytdlcimfifkhllaagreat", sum := "dfb2a1da0dad46096d026a9e670dcf755ae40d4976b5f7a76a957a82a114b07c", func := "cartouche/cartouchelaw13.CheckNodes", spec := "checkNodes", unfollowed := true, recurses := true, apart := false }
def CheckNodesSaid : Prop := checkNodesRow.holds Tryz.pinned (OpenSpec.ofChange checkNodesSpec)

/-- ITS FALSE NEIGHBOUR: 'it returns false'. Refute it at one input. -/
def checkNodesWrong : ChangeSpec := { name := "checkNodes", fn := fun _ => fun
  | [d1, d2, d3] => { results := [.lit (.bool false)], args := [d1, d2, d3] }
  | _ => none }
def CheckNodesWrongFalsely : Prop := checkNodesRow.holds Tryz.pinned (OpenSpec.ofChange checkNodesWrong)

/- THE SECOND FORM. 'bulk': how many values and letters a reading holds, each counted each time it is reached (what is shared counts as often as it is met; a slice's spare places count too). A statement '..UptoSaid' is the law's where the arguments, and the package variables that the reading takes, are together of bulk at most 1048576: NARROWER than '..Said'. Prove '..Said' where nothing that the law and all that it calls make is longer than what came in: it says more and counts as full. Else prove '..UptoSaid'. A law counts once. -/
mutual
def uptoBulk {H : Type} : DataW H → Nat
  | .lit (.string bytes) => bytes.length + 1
  | .lit _ => 1
  | .nil => 1
  | .ptr d => uptoBulk d + 1
  | .slice elems spare => uptoBulkAll elems + uptoBulkAll spare + 1
  | .agg parts => uptoBulkAll parts + 1
  | .iface _ d => uptoBulk d + 1
  | .map entries => uptoBulkEntries entries + 1
  | .held _ => 1
def uptoBulkAll {H : Type} : List (DataW H) → Nat
  | [] => 0
  | d :: r => uptoBulk d + uptoBulkAll r
def uptoBulkEntries {H : Type} : List (Lit × DataW H) → Nat
  | [] => 0
  | x :: r => uptoBulkEntry x + uptoBulkEntries r
def uptoBulkEntry {H : Type} : Lit × DataW H → Nat
  | (.string bytes, d) => bytes.length + uptoBulk d + 1
  | (_, d) => uptoBulk d + 1
 end
def uptoSmall : (H : Type) → List (DataW H) → Bool := fun _ ds => decide (uptoBulkAll ds ≤ 1048576)
def OpenSpec.upto (s : _root_.Go.ChangeSpec) : _root_.Go.OpenSpec := { _root_.Go.OpenSpec.ofChange s with cond := some uptoSmall }

/-- 'cartouchelaw13.CheckTells', WHERE WHAT IT READS IS OF BULK AT MOST 1048576: true; the input reads as it did. -/
def checkTellsUptoRow : OpenClaim := { program := "ytdlcimfifkhllaagreat", sum := "dfb2a1da0dad46096d026a9e670dcf755ae40d4976b5f7a76a957a82a114b07c", func := "cartouche/cartouchelaw13.CheckTells", spec := "checkTells", unfollowed := true, recurses := true, apart := false, narrowed := true }
def CheckTellsUptoSaid : Prop := checkTellsUptoRow.holds Tryz.pinned (OpenSpec.upto checkTellsSpec)

/-- 'cartouchelaw13.CheckRight', WHERE WHAT IT READS IS OF BULK AT MOST 1048576: true; the input reads as it did. -/
def checkRightUptoRow : OpenClaim := { program := "ytdlcimfifkhllaagreat", sum := "dfb2a1da0dad46096d026a9e670dcf755ae40d4976b5f7a76a957a82a114b07c", func := "cartouche/cartouchelaw13.CheckRight", spec := "checkRight", unfollowed := true, recurses := true, apart := false, narrowed := true }
def CheckRightUptoSaid : Prop := checkRightUptoRow.holds Tryz.pinned (OpenSpec.upto checkRightSpec)

/-- 'cartouchelaw13.CheckTakes', WHERE WHAT IT READS IS OF BULK AT MOST 1048576: true; the input reads as it did. -/
def checkTakesUptoRow : OpenClaim := { program := "ytdlcimfifkhllaagreat", sum := "dfb2a1da0dad46096d026a9e670dcf755ae40d4976b5f7a76a957a82a114b07c", func := "cartouche/cartouchelaw13.CheckTakes", spec := "checkTakes", unfollowed := true, recurses := true, apart := false, narrowed := true }
def CheckTakesUptoSaid : Prop := checkTakesUptoRow.holds Tryz.pinned (OpenSpec.upto checkTakesSpec)

/-- 'cartouchelaw13.CheckTurned', WHERE WHAT IT READS IS OF BULK AT MOST 1048576: true; the input reads as it did. -/
def checkTurnedUptoRow : OpenClaim := { program := "ytdlcimfifkhllaagreat", sum := "dfb2a1da0dad46096d026a9e670dcf755ae40d4976b5f7a76a957a82a114b07c", func := "cartouche/cartouchelaw13.CheckTurned", spec := "checkTurned", unfollowed := true, recurses := true, apart := false, narrowed := true }
def CheckTurnedUptoSaid : Prop := checkTurnedUptoRow.holds Tryz.pinned (OpenSpec.upto checkTurnedSpec)

/-- 'cartouchelaw13.CheckTurns', WHERE WHAT IT READS IS OF BULK AT MOST 1048576: true; the input reads as it did. -/
def checkTurnsUptoRow : OpenClaim := { program := "ytdlcimfifkhllaagreat", sum := "dfb2a1da0dad46096d026a9e670dcf755ae40d4976b5f7a76a957a82a114b07c", func := "cartouche/cartouchelaw13.CheckTurns", spec := "checkTurns", unfollowed := true, recurses := true, apart := false, narrowed := true }
def CheckTurnsUptoSaid : Prop := checkTurnsUptoRow.holds Tryz.pinned (OpenSpec.upto checkTurnsSpec)

/-- 'cartouchelaw13.CheckLevels', WHERE WHAT IT READS IS OF BULK AT MOST 1048576: true; the input reads as it did. -/
def checkLevelsUptoRow : OpenClaim := { program := "ytdlcimfifkhllaagreat", sum := "dfb2a1da0dad46096d026a9e670dcf755ae40d4976b5f7a76a957a82a114b07c", func := "cartouche/cartouchelaw13.CheckLevels", spec := "checkLevels", unfollowed := true, recurses := true, apart := false, narrowed := true }
def CheckLevelsUptoSaid : Prop := checkLevelsUptoRow.holds Tryz.pinned (OpenSpec.upto checkLevelsSpec)

/-- 'cartouchelaw13.CheckNodes', WHERE WHAT IT READS IS OF BULK AT MOST 1048576: true; the input reads as it did. -/
def checkNodesUptoRow : OpenClaim := { program := "ytdlcimfifkhllaagreat", sum := "dfb2a1da0dad46096d026a9e670dcf755ae40d4976b5f7a76a957a82a114b07c", func := "cartouche/cartouchelaw13.CheckNodes", spec := "checkNodes", unfollowed := true, recurses := true, apart := false, narrowed := true }
def CheckNodesUptoSaid : Prop := checkNodesUptoRow.holds Tryz.pinned (OpenSpec.upto checkNodesSpec)

end Rows
end Go.Proofs.YtdlcimfifkhllaaGreat
