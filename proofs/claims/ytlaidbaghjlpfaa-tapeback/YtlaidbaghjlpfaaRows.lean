/-
  No cell of these rows narrows 'for every input' (looked for: loops, veiled, ifaces, maps, wideKeys, modest, calm, conditions, laid).
  DERIVED. THE GIVEN ROWS OF THIS SEAT. 6 by the template 'for every input the law returns true; each argument reads behind the call as it read before'; 0 by the template 'total and deterministic' (their statements: YtlaidbaghjlpfaaTotals.lean).
  GIVEN WITH THE SEED: the statements are not yours to turn. If you find one false, say at which input.
  Laid BY PROGRAM, IN A SANDBOX (cutbox-rows.mjs): the forced cells as the released guide's own fill.sh prints them over the translation 7503b5700870abef… (all of the seat's roots in one cut). By AI agents, Wed Nov 11 2026. No macro, syntax, notation, axiom, sorry.
-/
import Derived.Test.YtlaidbaghjlpfaaChecked
import GoSem.Claim
import GoSem.ClaimJoined
import GoSem.ClaimMapViews
import Derived.JoinedTies
import Derived.KernelRfl
namespace Go.Proofs.Ytlaidbaghjlpfaa
/- THE CELL 'sum', in the pinned program and in every row, IS THE sha256 OF THE DUMP (.gsa) THAT YtlaidbaghjlpfaaProg.lean LOADS. Nothing in Lean hashes anything: it is a label: what it is worth is what the hold of that sum in a sandbox is worth. -/
noncomputable def Try.pinned : Pinned := { name := "ytlaidbaghjlpfaa", sum := "7503b5700870abef17e7486b4ae2a959030376b06aba8e048d4db9ec9bbecb00", checked := Try.checked }
namespace Rows
def none {H : Type} : Left H := { results := [], args := [] }

/-- 'cartouchelaw16.TapeActs': WHATEVER THE INPUT: true; the input reads as it did. -/
def tapeActsSpec : ChangeSpec := { name := "tapeActs", fn := fun _ => fun
  | [d] => { results := [.lit (.bool true)], args := [d] }
  | _ => none }
def tapeActsRow : OpenClaim := { program := "ytlaidbaghjlpfaa", sum := "7503b5700870abef17e7486b4ae2a959030376b06aba8e048d4db9ec9bbecb00", func := "cartouche/cartouchelaw16.TapeActs", spec := "tapeActs", unfollowed := true, recurses := true, apart := false }
def TapeActsSaid : Prop := tapeActsRow.holds Try.pinned (OpenSpec.ofChange tapeActsSpec)

/-- ITS FALSE NEIGHBOUR: 'it returns false'. Refute it at one input. -/
def tapeActsWrong : ChangeSpec := { name := "tapeActs", fn := fun _ => fun
  | [d] => { results := [.lit (.bool false)], args := [d] }
  | _ => none }
def TapeActsWrongFalsely : Prop := tapeActsRow.holds Try.pinned (OpenSpec.ofChange tapeActsWrong)

/-- 'cartouchelaw16.TapeLasts': WHATEVER THE INPUT: true; the input reads as it did. -/
def tapeLastsSpec : ChangeSpec := { name := "tapeLasts", fn := fun _ => fun
  | [d1, d2] => { results := [.lit (.bool true)], args := [d1, d2] }
  | _ => none }
def tapeLastsRow : OpenClaim := { program := "ytlaidbaghjlpfaa", sum := "7503b5700870abef17e7486b4ae2a959030376b06aba8e048d4db9ec9bbecb00", func := "cartouche/cartouchelaw16.TapeLasts", spec := "tapeLasts", unfollowed := true, recurses := true, apart := false }
def TapeLastsSaid : Prop := tapeLastsRow.holds Try.pinned (OpenSpec.ofChange tapeLastsSpec)

/-- ITS FALSE NEIGHBOUR: 'it returns false'. Refute it at one input. -/
def tapeLastsWrong : ChangeSpec := { name := "tapeLasts", fn := fun _ => fun
  | [d1, d2] => { results := [.lit (.bool false)], args := [d1, d2] }
  | _ => none }
def TapeLastsWrongFalsely : Prop := tapeLastsRow.holds Try.pinned (OpenSpec.ofChange tapeLastsWrong)

/-- 'cartouchelaw16.TapeRoom': WHATEVER THE INPUT: true; the input reads as it did. -/
def tapeRoomSpec : ChangeSpec := { name := "tapeRoom", fn := fun _ => fun
  | [d1, d2] => { results := [.lit (.bool true)], args := [d1, d2] }
  | _ => none }
def tapeRoomRow : OpenClaim := { program := "ytlaidbaghjlpfaa", sum := "7503b5700870abef17e7486b4ae2a959030376b06aba8e048d4db9ec9bbecb00", func := "cartouche/cartouchelaw16.TapeRoom", spec := "tapeRoom", unfollowed := true, recurses := true, apart := false }
def TapeRoomSaid : Prop := tapeRoomRow.holds Try.pinned (OpenSpec.ofChange tapeRoomSpec)

/-- ITS FALSE NEIGHBOUR: 'it returns false'. Refute it at one input. -/
def tapeRoomWrong : ChangeSpec := { name := "tapeRoom", fn := fun _ => fun
  | [d1, d2] => { results := [.lit (.bool false)], args := [d1, d2] }
  | _ => none }
def TapeRoomWrongFalsely : Prop := tapeRoomRow.holds Try.pinned (OpenSpec.ofChange tapeRoomWrong)

/-- 'cartouchelaw16.TapeBack': WHATEVER THE INPUT: true; the input reads as it did. -/
def tapeBackSpec : ChangeSpec := { name := "tapeBack", fn := fun _ => fun
  | [d] => { results := [.lit (.bool true)], args := [d] }
  | _ => none }
def tapeBackRow : OpenClaim := { program := "ytlaidbaghjlpfaa", sum := "7503b5700870abef17e7486b4ae2a959030376b06aba8e048d4db9ec9bbecb00", func := "cartouche/cartouchelaw16.TapeBack", spec := "tapeBack", unfollowed := true, recurses := true, apart := false }
def TapeBackSaid : Prop := tapeBackRow.holds Try.pinned (OpenSpec.ofChange tapeBackSpec)

/-- ITS FALSE NEIGHBOUR: 'it returns false'. Refute it at one input. -/
def tapeBackWrong : ChangeSpec := { name := "tapeBack", fn := fun _ => fun
  | [d] => { results := [.lit (.bool false)], args := [d] }
  | _ => none }
def TapeBackWrongFalsely : Prop := tapeBackRow.holds Try.pinned (OpenSpec.ofChange tapeBackWrong)

/-- 'cartouchelaw16.TapeScans': WHATEVER THE INPUT: true; the input reads as it did. -/
def tapeScansSpec : ChangeSpec := { name := "tapeScans", fn := fun _ => fun
  | [d1, d2] => { results := [.lit (.bool true)], args := [d1, d2] }
  | _ => none }
def tapeScansRow : OpenClaim := { program := "ytlaidbaghjlpfaa", sum := "7503b5700870abef17e7486b4ae2a959030376b06aba8e048d4db9ec9bbecb00", func := "cartouche/cartouchelaw16.TapeScans", spec := "tapeScans", unfollowed := true, recurses := true, apart := false }
def TapeScansSaid : Prop := tapeScansRow.holds Try.pinned (OpenSpec.ofChange tapeScansSpec)

/-- ITS FALSE NEIGHBOUR: 'it returns false'. Refute it at one input. -/
def tapeScansWrong : ChangeSpec := { name := "tapeScans", fn := fun _ => fun
  | [d1, d2] => { results := [.lit (.bool false)], args := [d1, d2] }
  | _ => none }
def TapeScansWrongFalsely : Prop := tapeScansRow.holds Try.pinned (OpenSpec.ofChange tapeScansWrong)

/-- 'cartouchelaw16.TapeOff': WHATEVER THE INPUT: true; the input reads as it did. -/
def tapeOffSpec : ChangeSpec := { name := "tapeOff", fn := fun _ => fun
  | [d1, d2, d3] => { results := [.lit (.bool true)], args := [d1, d2, d3] }
  | _ => none }
def tapeOffRow : OpenClaim := { program := "ytlaidbaghjlpfaa", sum := "7503b5700870abef17e7486b4ae2a959030376b06aba8e048d4db9ec9bbecb00", func := "cartouche/cartouchelaw16.TapeOff", spec := "tapeOff", unfollowed := true, recurses := true, apart := false }
def TapeOffSaid : Prop := tapeOffRow.holds Try.pinned (OpenSpec.ofChange tapeOffSpec)

/-- ITS FALSE NEIGHBOUR: 'it returns false'. Refute it at one input. -/
def tapeOffWrong : ChangeSpec := { name := "tapeOff", fn := fun _ => fun
  | [d1, d2, d3] => { results := [.lit (.bool false)], args := [d1, d2, d3] }
  | _ => none }
def TapeOffWrongFalsely : Prop := tapeOffRow.holds Try.pinned (OpenSpec.ofChange tapeOffWrong)

/- THE SECOND FORM. 'bulk': how many values and letters a reading holds, each counted each time it is reached (what is shared counts as often as it is met; a slice's spare places count too). A statement '..UptoSaid' is the law's where the arguments, and the package variables that the reading takes, are together of bulk at most 1048576: NARROWER than '..Said'. Prove '..Said' where nothing that the law and all that it calls make is longer than what came in: it says more and counts as full. Else prove '..UptoSaid'. A law counts once. -/
mutual
def uptoBulk {H : Type} : DataW H → Nat
  | .lit (.string bytes) => bytes.length + 1
  | .lit _ => 1
  | .nil => 1
  | .ptr d => uptoBulk d + 1
  | .slice elems spare => uptoBulkAll elems + uptoBulkAll spare + 1
  | .agg parts => uptoBulkAll parts + 1
  | .iface _ d => uptoBulk d + 1
  | .map entries => uptoBulkEntries entries + 1
  | .held _ => 1
def uptoBulkAll {H : Type} : List (DataW H) → Nat
  | [] => 0
  | d :: r => uptoBulk d + uptoBulkAll r
def uptoBulkEntries {H : Type} : List (Lit × DataW H) → Nat
  | [] => 0
  | x :: r => uptoBulkEntry x + uptoBulkEntries r
def uptoBulkEntry {H : Type} : Lit × DataW H → Nat
  | (.string bytes, d) => bytes.length + uptoBulk d + 1
  | (_, d) => uptoBulk d + 1
 end
def uptoSmall : (H : Type) → List (DataW H) → Bool := fun _ ds => decide (uptoBulkAll ds ≤ 1048576)
def OpenSpec.upto (s : _root_.Go.ChangeSpec) : _root_.Go.OpenSpec := { _root_.Go.OpenSpec.ofChange s with cond := some uptoSmall }

/-- 'cartouchelaw16.TapeActs', WHERE WHAT IT READS IS OF BULK AT MOST 1048576: true; the input reads as it did. -/
def tapeActsUptoRow : OpenClaim := { program := "ytlaidbaghjlpfaa", sum := "7503b5700870abef17e7486b4ae2a959030376b06aba8e048d4db9ec9bbecb00", func := "cartouche/cartouchelaw16.TapeActs", spec := "tapeActs", unfollowed := true, recurses := true, apart := false, narrowed := true }
def TapeActsUptoSaid : Prop := tapeActsUptoRow.holds Try.pinned (OpenSpec.upto tapeActsSpec)

/-- 'cartouchelaw16.TapeLasts', WHERE WHAT IT READS IS OF BULK AT MOST 1048576: true; the input reads as it did. -/
def tapeLastsUptoRow : OpenClaim := { program := "ytlaidbaghjlpfaa", sum := "7503b5700870abef17e7486b4ae2a959030376b06aba8e048d4db9ec9bbecb00", func := "cartouche/cartouchelaw16.TapeLasts", spec := "tapeLasts", unfollowed := true, recurses := true, apart := false, narrowed := true }
def TapeLastsUptoSaid : Prop := tapeLastsUptoRow.holds Try.pinned (OpenSpec.upto tapeLastsSpec)

/-- 'cartouchelaw16.TapeRoom', WHERE WHAT IT READS IS OF BULK AT MOST 1048576: true; the input reads as it did. -/
def tapeRoomUptoRow : OpenClaim := { program := "ytlaidbaghjlpfaa", sum := "7503b5700870abef17e7486b4ae2a959030376b06aba8e048d4db9ec9bbecb00", func := "cartouche/cartouchelaw16.TapeRoom", spec := "tapeRoom", unfollowed := true, recurses := true, apart := false, narrowed := true }
def TapeRoomUptoSaid : Prop := tapeRoomUptoRow.holds Try.pinned (OpenSpec.upto tapeRoomSpec)

/-- 'cartouchelaw16.TapeBack', WHERE WHAT IT READS IS OF BULK AT MOST 1048576: true; the input reads as it did. -/
def tapeBackUptoRow : OpenClaim := { program := "ytlaidbaghjlpfaa", sum := "7503b5700870abef17e7486b4ae2a959030376b06aba8e048d4db9ec9bbecb00", func := "cartouche/cartouchelaw16.TapeBack", spec := "tapeBack", unfollowed := true, recurses := true, apart := false, narrowed := true }
def TapeBackUptoSaid : Prop := tapeBackUptoRow.holds Try.pinned (OpenSpec.upto tapeBackSpec)

/-- 'cartouchelaw16.TapeScans', WHERE WHAT IT READS IS OF BULK AT MOST 1048576: true; the input reads as it did. -/
def tapeScansUptoRow : OpenClaim := { program := "ytlaidbaghjlpfaa", sum := "7503b5700870abef17e7486b4ae2a959030376b06aba8e048d4db9ec9bbecb00", func := "cartouche/cartouchelaw16.TapeScans", spec := "tapeScans", unfollowed := true, recurses := true, apart := false, narrowed := true }
def TapeScansUptoSaid : Prop := tapeScansUptoRow.holds Try.pinned (OpenSpec.upto tapeScansSpec)

/-- 'cartouchelaw16.TapeOff', WHERE WHAT IT READS IS OF BULK AT MOST 1048576: true; the input reads as it did. -/
def tapeOffUptoRow : OpenClaim := { program := "ytlaidbaghjlpfaa", sum := "7503b5700870abef17e7486b4ae2a959030376b06aba8e048d4db9ec9bbecb00", func := "cartouche/cartouchelaw16.TapeOff", spec := "tapeOff", unfollowed := true, recurses := true, apart := false, narrowed := true }
def TapeOffUptoSaid : Prop := tapeOffUptoRow.holds Try.pinned (OpenSpec.upto tapeOffSpec)

end Rows
end Go.Proofs.Ytlaidbaghjlpfaa
