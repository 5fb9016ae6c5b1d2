/-
  No cell of these rows narrows 'for every input' (looked for: loops, veiled, ifaces, maps, wideKeys, modest, calm, conditions, laid).
  DERIVED. THE GIVEN ROWS OF THIS SEAT. 6 by the template 'for every input the law returns true; each argument reads behind the call as it read before'; 0 by the template 'total and deterministic' (their statements: YtljgflgfcbmgiaaTotals.lean).
  GIVEN WITH THE SEED: the statements are not yours to turn. If you find one false, say at which input.
  Laid BY PROGRAM, IN A SANDBOX (cutbox-rows.mjs): the forced cells as the released guide's own fill.sh prints them over the translation e3ed7dbf92560652… (all of the seat's roots in one cut). By AI agents, Wed Nov 11 2026. No macro, syntax, notation, axiom, sorry.
-/
import Derived.Test.YtljgflgfcbmgiaaChecked
import GoSem.Claim
import GoSem.ClaimJoined
import GoSem.ClaimMapViews
import Derived.JoinedTies
import Derived.KernelRfl
namespace Go.Proofs.Ytljgflgfcbmgiaa
/- THE CELL 'sum', in the pinned program and in every row, IS THE sha256 OF THE DUMP (.gsa) THAT YtljgflgfcbmgiaaProg.lean LOADS. Nothing in Lean hashes anything: it is a label: what it is worth is what the hold of that sum in a sandbox is worth. -/
noncomputable def Try.pinned : Pinned := { name := "ytljgflgfcbmgiaa", sum := "e3ed7dbf92560652b7e75082dd2d518bb195d4aa0cf3d532713f239b5a07d24f", checked := Try.checked }
namespace Rows
def none {H : Type} : Left H := { results := [], args := [] }

/-- 'cartouchelaw09.TaintTells': WHATEVER THE INPUT: true; the input reads as it did. -/
def taintTellsSpec : ChangeSpec := { name := "taintTells", fn := fun _ => fun
  | [d1, d2] => { results := [.lit (.bool true)], args := [d1, d2] }
  | _ => none }
def taintTellsRow : OpenClaim := { program := "ytljgflgfcbmgiaa", sum := "e3ed7dbf92560652b7e75082dd2d518bb195d4aa0cf3d532713f239b5a07d24f", func := "cartouche/cartouchelaw09.TaintTells", spec := "taintTells", unfollowed := true, recurses := true, apart := false }
def TaintTellsSaid : Prop := taintTellsRow.holds Try.pinned (OpenSpec.ofChange taintTellsSpec)

/-- ITS FALSE NEIGHBOUR: 'it returns false'. Refute it at one input. -/
def taintTellsWrong : ChangeSpec := { name := "taintTells", fn := fun _ => fun
  | [d1, d2] => { results := [.lit (.bool false)], args := [d1, d2] }
  | _ => none }
def TaintTellsWrongFalsely : Prop := taintTellsRow.holds Try.pinned (OpenSpec.ofChange taintTellsWrong)

/-- 'cartouchelaw09.TaintShows': WHATEVER THE INPUT: true; the input reads as it did. -/
def taintShowsSpec : ChangeSpec := { name := "taintShows", fn := fun _ => fun
  | [d1, d2] => { results := [.lit (.bool true)], args := [d1, d2] }
  | _ => none }
def taintShowsRow : OpenClaim := { program := "ytljgflgfcbmgiaa", sum := "e3ed7dbf92560652b7e75082dd2d518bb195d4aa0cf3d532713f239b5a07d24f", func := "cartouche/cartouchelaw09.TaintShows", spec := "taintShows", unfollowed := true, recurses := true, apart := false }
def TaintShowsSaid : Prop := taintShowsRow.holds Try.pinned (OpenSpec.ofChange taintShowsSpec)

/-- ITS FALSE NEIGHBOUR: 'it returns false'. Refute it at one input. -/
def taintShowsWrong : ChangeSpec := { name := "taintShows", fn := fun _ => fun
  | [d1, d2] => { results := [.lit (.bool false)], args := [d1, d2] }
  | _ => none }
def TaintShowsWrongFalsely : Prop := taintShowsRow.holds Try.pinned (OpenSpec.ofChange taintShowsWrong)

/-- 'cartouchelaw09.TaintClean': WHATEVER THE INPUT: true; the input reads as it did. -/
def taintCleanSpec : ChangeSpec := { name := "taintClean", fn := fun _ => fun
  | [d] => { results := [.lit (.bool true)], args := [d] }
  | _ => none }
def taintCleanRow : OpenClaim := { program := "ytljgflgfcbmgiaa", sum := "e3ed7dbf92560652b7e75082dd2d518bb195d4aa0cf3d532713f239b5a07d24f", func := "cartouche/cartouchelaw09.TaintClean", spec := "taintClean", unfollowed := true, recurses := true, apart := false }
def TaintCleanSaid : Prop := taintCleanRow.holds Try.pinned (OpenSpec.ofChange taintCleanSpec)

/-- ITS FALSE NEIGHBOUR: 'it returns false'. Refute it at one input. -/
def taintCleanWrong : ChangeSpec := { name := "taintClean", fn := fun _ => fun
  | [d] => { results := [.lit (.bool false)], args := [d] }
  | _ => none }
def TaintCleanWrongFalsely : Prop := taintCleanRow.holds Try.pinned (OpenSpec.ofChange taintCleanWrong)

/-- 'cartouchelaw09.TaintOrder': WHATEVER THE INPUT: true; the input reads as it did. -/
def taintOrderSpec : ChangeSpec := { name := "taintOrder", fn := fun _ => fun
  | [d] => { results := [.lit (.bool true)], args := [d] }
  | _ => none }
def taintOrderRow : OpenClaim := { program := "ytljgflgfcbmgiaa", sum := "e3ed7dbf92560652b7e75082dd2d518bb195d4aa0cf3d532713f239b5a07d24f", func := "cartouche/cartouchelaw09.TaintOrder", spec := "taintOrder", unfollowed := true, recurses := true, apart := false }
def TaintOrderSaid : Prop := taintOrderRow.holds Try.pinned (OpenSpec.ofChange taintOrderSpec)

/-- ITS FALSE NEIGHBOUR: 'it returns false'. Refute it at one input. -/
def taintOrderWrong : ChangeSpec := { name := "taintOrder", fn := fun _ => fun
  | [d] => { results := [.lit (.bool false)], args := [d] }
  | _ => none }
def TaintOrderWrongFalsely : Prop := taintOrderRow.holds Try.pinned (OpenSpec.ofChange taintOrderWrong)

/-- 'cartouchelaw09.TaintOwn': WHATEVER THE INPUT: true; the input reads as it did. -/
def taintOwnSpec : ChangeSpec := { name := "taintOwn", fn := fun _ => fun
  | [d1, d2] => { results := [.lit (.bool true)], args := [d1, d2] }
  | _ => none }
def taintOwnRow : OpenClaim := { program := "ytljgflgfcbmgiaa", sum := "e3ed7dbf92560652b7e75082dd2d518bb195d4aa0cf3d532713f239b5a07d24f", func := "cartouche/cartouchelaw09.TaintOwn", spec := "taintOwn", unfollowed := true, recurses := true, apart := false }
def TaintOwnSaid : Prop := taintOwnRow.holds Try.pinned (OpenSpec.ofChange taintOwnSpec)

/-- ITS FALSE NEIGHBOUR: 'it returns false'. Refute it at one input. -/
def taintOwnWrong : ChangeSpec := { name := "taintOwn", fn := fun _ => fun
  | [d1, d2] => { results := [.lit (.bool false)], args := [d1, d2] }
  | _ => none }
def TaintOwnWrongFalsely : Prop := taintOwnRow.holds Try.pinned (OpenSpec.ofChange taintOwnWrong)

/-- 'cartouchelaw09.TaintAborts': WHATEVER THE INPUT: true; the input reads as it did. -/
def taintAbortsSpec : ChangeSpec := { name := "taintAborts", fn := fun _ => fun
  | [d1, d2] => { results := [.lit (.bool true)], args := [d1, d2] }
  | _ => none }
def taintAbortsRow : OpenClaim := { program := "ytljgflgfcbmgiaa", sum := "e3ed7dbf92560652b7e75082dd2d518bb195d4aa0cf3d532713f239b5a07d24f", func := "cartouche/cartouchelaw09.TaintAborts", spec := "taintAborts", unfollowed := true, recurses := true, apart := false }
def TaintAbortsSaid : Prop := taintAbortsRow.holds Try.pinned (OpenSpec.ofChange taintAbortsSpec)

/-- ITS FALSE NEIGHBOUR: 'it returns false'. Refute it at one input. -/
def taintAbortsWrong : ChangeSpec := { name := "taintAborts", fn := fun _ => fun
  | [d1, d2] => { results := [.lit (.bool false)], args := [d1, d2] }
  | _ => none }
def TaintAbortsWrongFalsely : Prop := taintAbortsRow.holds Try.pinned (OpenSpec.ofChange taintAbortsWrong)

/- THE SECOND FORM. 'bulk': how many values and letters a reading holds, each counted each time it is reached (what is shared counts as often as it is met; a slice's spare places count too). A statement '..UptoSaid' is the law's where the arguments, and the package variables that the reading takes, are together of bulk at most 1048576: NARROWER than '..Said'. Prove '..Said' where nothing that the law and all that it calls make is longer than what came in: it says more and counts as full. Else prove '..UptoSaid'. A law counts once. -/
mutual
def uptoBulk {H : Type} : DataW H → Nat
  | .lit (.string bytes) => bytes.length + 1
  | .lit _ => 1
  | .nil => 1
  | .ptr d => uptoBulk d + 1
  | .slice elems spare => uptoBulkAll elems + uptoBulkAll spare + 1
  | .agg parts => uptoBulkAll parts + 1
  | .iface _ d => uptoBulk d + 1
  | .map entries => uptoBulkEntries entries + 1
  | .held _ => 1
def uptoBulkAll {H : Type} : List (DataW H) → Nat
  | [] => 0
  | d :: r => uptoBulk d + uptoBulkAll r
def uptoBulkEntries {H : Type} : List (Lit × DataW H) → Nat
  | [] => 0
  | x :: r => uptoBulkEntry x + uptoBulkEntries r
def uptoBulkEntry {H : Type} : Lit × DataW H → Nat
  | (.string bytes, d) => bytes.length + uptoBulk d + 1
  | (_, d) => uptoBulk d + 1
 end
def uptoSmall : (H : Type) → List (DataW H) → Bool := fun _ ds => decide (uptoBulkAll ds ≤ 1048576)
def OpenSpec.upto (s : _root_.Go.ChangeSpec) : _root_.Go.OpenSpec := { _root_.Go.OpenSpec.ofChange s with cond := some uptoSmall }

/-- 'cartouchelaw09.TaintTells', WHERE WHAT IT READS IS OF BULK AT MOST 1048576: true; the input reads as it did. -/
def taintTellsUptoRow : OpenClaim := { program := "ytljgflgfcbmgiaa", sum := "e3ed7dbf92560652b7e75082dd2d518bb195d4aa0cf3d532713f239b5a07d24f", func := "cartouche/cartouchelaw09.TaintTells", spec := "taintTells", unfollowed := true, recurses := true, apart := false, narrowed := true }
def TaintTellsUptoSaid : Prop := taintTellsUptoRow.holds Try.pinned (OpenSpec.upto taintTellsSpec)

/-- 'cartouchelaw09.TaintShows', WHERE WHAT IT READS IS OF BULK AT MOST 1048576: true; the input reads as it did. -/
def taintShowsUptoRow : OpenClaim := { program := "ytljgflgfcbmgiaa", sum := "e3ed7dbf92560652b7e75082dd2d518bb195d4aa0cf3d532713f239b5a07d24f", func := "cartouche/cartouchelaw09.TaintShows", spec := "taintShows", unfollowed := true, recurses := true, apart := false, narrowed := true }
def TaintShowsUptoSaid : Prop := taintShowsUptoRow.holds Try.pinned (OpenSpec.upto taintShowsSpec)

/-- 'cartouchelaw09.TaintClean', WHERE WHAT IT READS IS OF BULK AT MOST 1048576: true; the input reads as it did. -/
def taintCleanUptoRow : OpenClaim := { program := "ytljgflgfcbmgiaa", sum := "e3ed7dbf92560652b7e75082dd2d518bb195d4aa0cf3d532713f239b5a07d24f", func := "cartouche/cartouchelaw09.TaintClean", spec := "taintClean", unfollowed := true, recurses := true, apart := false, narrowed := true }
def TaintCleanUptoSaid : Prop := taintCleanUptoRow.holds Try.pinned (OpenSpec.upto taintCleanSpec)

/-- 'cartouchelaw09.TaintOrder', WHERE WHAT IT READS IS OF BULK AT MOST 1048576: true; the input reads as it did. -/
def taintOrderUptoRow : OpenClaim := { program := "ytljgflgfcbmgiaa", sum := "e3ed7dbf92560652b7e75082dd2d518bb195d4aa0cf3d532713f239b5a07d24f", func := "cartouche/cartouchelaw09.TaintOrder", spec := "taintOrder", unfollowed := true, recurses := true, apart := false, narrowed := true }
def TaintOrderUptoSaid : Prop := taintOrderUptoRow.holds Try.pinned (OpenSpec.upto taintOrderSpec)

/-- 'cartouchelaw09.TaintOwn', WHERE WHAT IT READS IS OF BULK AT MOST 1048576: true; the input reads as it did. -/
def taintOwnUptoRow : OpenClaim := { program := "ytljgflgfcbmgiaa", sum := "e3ed7dbf92560652b7e75082dd2d518bb195d4aa0cf3d532713f239b5a07d24f", func := "cartouche/cartouchelaw09.TaintOwn", spec := "taintOwn", unfollowed := true, recurses := true, apart := false, narrowed := true }
def TaintOwnUptoSaid : Prop := taintOwnUptoRow.holds Try.pinned (OpenSpec.upto taintOwnSpec)

/-- 'cartouchelaw09.TaintAborts', WHERE WHAT IT READS IS OF BULK AT MOST 1048576: true; the input reads as it did. -/
def taintAbortsUptoRow : OpenClaim := { program := "ytljgflgfcbmgiaa", sum := "e3ed7dbf92560652b7e75082dd2d518bb195d4aa0cf3d532713f239b5a07d24f", func := "cartouche/cartouchelaw09.TaintAborts", spec := "taintAborts", unfollowed := true, recurses := true, apart := false, narrowed := true }
def TaintAbortsUptoSaid : Prop := taintAbortsUptoRow.holds Try.pinned (OpenSpec.upto taintAbortsSpec)

end Rows
end Go.Proofs.Ytljgflgfcbmgiaa
