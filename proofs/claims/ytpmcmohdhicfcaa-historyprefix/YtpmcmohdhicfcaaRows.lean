/-
  No cell of these rows narrows 'for every input' (looked for: loops, veiled, ifaces, maps, wideKeys, modest, calm, conditions, laid).
  DERIVED. THE GIVEN ROWS OF THIS SEAT. 8 by the template 'for every input the law returns true; each argument reads behind the call as it read before'; 0 by the template 'total and deterministic' (their statements: YtpmcmohdhicfcaaTotals.lean).
  GIVEN WITH THE SEED: the statements are not yours to turn. If you find one false, say at which input.
  Laid BY PROGRAM, IN A SANDBOX (cutbox-rows.mjs): the forced cells as the released guide's own fill.sh prints them over the translation acfc4f16040ae4e2… (all of the seat's roots in one cut). By AI agents, Wed Nov 11 2026. No macro, syntax, notation, axiom, sorry.
-/
import Derived.Test.YtpmcmohdhicfcaaChecked
import GoSem.Claim
import GoSem.ClaimJoined
import GoSem.ClaimMapViews
import Derived.JoinedTies
import Derived.KernelRfl
namespace Go.Proofs.Ytpmcmohdhicfcaa
/- THE CELL 'sum', in the pinned program and in every row, IS THE sha256 OF THE DUMP (.gsa) THAT YtpmcmohdhicfcaaProg.lean LOADS. Nothing in Lean hashes anything: it is a label: what it is worth is what the hold of that sum in a sandbox is worth. -/
noncomputable def Try.pinned : Pinned := { name := "ytpmcmohdhicfcaa", sum := "acfc4f16040ae4e2269d5a83c77e6ec7f89d1eee7018e77767cd67b2716c4115", checked := Try.checked }
namespace Rows
def none {H : Type} : Left H := { results := [], args := [] }

/-- 'cartouchelaw08.HistoryForms': WHATEVER THE INPUT: true; the input reads as it did. -/
def historyFormsSpec : ChangeSpec := { name := "historyForms", fn := fun _ => fun
  | [d] => { results := [.lit (.bool true)], args := [d] }
  | _ => none }
def historyFormsRow : OpenClaim := { program := "ytpmcmohdhicfcaa", sum := "acfc4f16040ae4e2269d5a83c77e6ec7f89d1eee7018e77767cd67b2716c4115", func := "cartouche/cartouchelaw08.HistoryForms", spec := "historyForms", unfollowed := true, recurses := true, apart := false }
def HistoryFormsSaid : Prop := historyFormsRow.holds Try.pinned (OpenSpec.ofChange historyFormsSpec)

/-- ITS FALSE NEIGHBOUR: 'it returns false'. Refute it at one input. -/
def historyFormsWrong : ChangeSpec := { name := "historyForms", fn := fun _ => fun
  | [d] => { results := [.lit (.bool false)], args := [d] }
  | _ => none }
def HistoryFormsWrongFalsely : Prop := historyFormsRow.holds Try.pinned (OpenSpec.ofChange historyFormsWrong)

/-- 'cartouchelaw08.HistoryLives': WHATEVER THE INPUT: true; the input reads as it did. -/
def historyLivesSpec : ChangeSpec := { name := "historyLives", fn := fun _ => fun
  | [d1, d2] => { results := [.lit (.bool true)], args := [d1, d2] }
  | _ => none }
def historyLivesRow : OpenClaim := { program := "ytpmcmohdhicfcaa", sum := "acfc4f16040ae4e2269d5a83c77e6ec7f89d1eee7018e77767cd67b2716c4115", func := "cartouche/cartouchelaw08.HistoryLives", spec := "historyLives", unfollowed := true, recurses := true, apart := false }
def HistoryLivesSaid : Prop := historyLivesRow.holds Try.pinned (OpenSpec.ofChange historyLivesSpec)

/-- ITS FALSE NEIGHBOUR: 'it returns false'. Refute it at one input. -/
def historyLivesWrong : ChangeSpec := { name := "historyLives", fn := fun _ => fun
  | [d1, d2] => { results := [.lit (.bool false)], args := [d1, d2] }
  | _ => none }
def HistoryLivesWrongFalsely : Prop := historyLivesRow.holds Try.pinned (OpenSpec.ofChange historyLivesWrong)

/-- 'cartouchelaw08.HistoryWrites': WHATEVER THE INPUT: true; the input reads as it did. -/
def historyWritesSpec : ChangeSpec := { name := "historyWrites", fn := fun _ => fun
  | [d] => { results := [.lit (.bool true)], args := [d] }
  | _ => none }
def historyWritesRow : OpenClaim := { program := "ytpmcmohdhicfcaa", sum := "acfc4f16040ae4e2269d5a83c77e6ec7f89d1eee7018e77767cd67b2716c4115", func := "cartouche/cartouchelaw08.HistoryWrites", spec := "historyWrites", unfollowed := true, recurses := true, apart := false }
def HistoryWritesSaid : Prop := historyWritesRow.holds Try.pinned (OpenSpec.ofChange historyWritesSpec)

/-- ITS FALSE NEIGHBOUR: 'it returns false'. Refute it at one input. -/
def historyWritesWrong : ChangeSpec := { name := "historyWrites", fn := fun _ => fun
  | [d] => { results := [.lit (.bool false)], args := [d] }
  | _ => none }
def HistoryWritesWrongFalsely : Prop := historyWritesRow.holds Try.pinned (OpenSpec.ofChange historyWritesWrong)

/-- 'cartouchelaw08.HistoryOnce': WHATEVER THE INPUT: true; the input reads as it did. -/
def historyOnceSpec : ChangeSpec := { name := "historyOnce", fn := fun _ => fun
  | [d] => { results := [.lit (.bool true)], args := [d] }
  | _ => none }
def historyOnceRow : OpenClaim := { program := "ytpmcmohdhicfcaa", sum := "acfc4f16040ae4e2269d5a83c77e6ec7f89d1eee7018e77767cd67b2716c4115", func := "cartouche/cartouchelaw08.HistoryOnce", spec := "historyOnce", unfollowed := true, recurses := true, apart := false }
def HistoryOnceSaid : Prop := historyOnceRow.holds Try.pinned (OpenSpec.ofChange historyOnceSpec)

/-- ITS FALSE NEIGHBOUR: 'it returns false'. Refute it at one input. -/
def historyOnceWrong : ChangeSpec := { name := "historyOnce", fn := fun _ => fun
  | [d] => { results := [.lit (.bool false)], args := [d] }
  | _ => none }
def HistoryOnceWrongFalsely : Prop := historyOnceRow.holds Try.pinned (OpenSpec.ofChange historyOnceWrong)

/-- 'cartouchelaw08.HistoryVersions': WHATEVER THE INPUT: true; the input reads as it did. -/
def historyVersionsSpec : ChangeSpec := { name := "historyVersions", fn := fun _ => fun
  | [d1, d2] => { results := [.lit (.bool true)], args := [d1, d2] }
  | _ => none }
def historyVersionsRow : OpenClaim := { program := "ytpmcmohdhicfcaa", sum := "acfc4f16040ae4e2269d5a83c77e6ec7f89d1eee7018e77767cd67b2716c4115", func := "cartouche/cartouchelaw08.HistoryVersions", spec := "historyVersions", unfollowed := true, recurses := true, apart := false }
def HistoryVersionsSaid : Prop := historyVersionsRow.holds Try.pinned (OpenSpec.ofChange historyVersionsSpec)

/-- ITS FALSE NEIGHBOUR: 'it returns false'. Refute it at one input. -/
def historyVersionsWrong : ChangeSpec := { name := "historyVersions", fn := fun _ => fun
  | [d1, d2] => { results := [.lit (.bool false)], args := [d1, d2] }
  | _ => none }
def HistoryVersionsWrongFalsely : Prop := historyVersionsRow.holds Try.pinned (OpenSpec.ofChange historyVersionsWrong)

/-- 'cartouchelaw08.HistoryGrows': WHATEVER THE INPUT: true; the input reads as it did. -/
def historyGrowsSpec : ChangeSpec := { name := "historyGrows", fn := fun _ => fun
  | [d1, d2, d3] => { results := [.lit (.bool true)], args := [d1, d2, d3] }
  | _ => none }
def historyGrowsRow : OpenClaim := { program := "ytpmcmohdhicfcaa", sum := "acfc4f16040ae4e2269d5a83c77e6ec7f89d1eee7018e77767cd67b2716c4115", func := "cartouche/cartouchelaw08.HistoryGrows", spec := "historyGrows", unfollowed := true, recurses := true, apart := false }
def HistoryGrowsSaid : Prop := historyGrowsRow.holds Try.pinned (OpenSpec.ofChange historyGrowsSpec)

/-- ITS FALSE NEIGHBOUR: 'it returns false'. Refute it at one input. -/
def historyGrowsWrong : ChangeSpec := { name := "historyGrows", fn := fun _ => fun
  | [d1, d2, d3] => { results := [.lit (.bool false)], args := [d1, d2, d3] }
  | _ => none }
def HistoryGrowsWrongFalsely : Prop := historyGrowsRow.holds Try.pinned (OpenSpec.ofChange historyGrowsWrong)

/-- 'cartouchelaw08.HistoryPrefix': WHATEVER THE INPUT: true; the input reads as it did. -/
def historyPrefixSpec : ChangeSpec := { name := "historyPrefix", fn := fun _ => fun
  | [d1, d2] => { results := [.lit (.bool true)], args := [d1, d2] }
  | _ => none }
def historyPrefixRow : OpenClaim := { program := "ytpmcmohdhicfcaa", sum := "acfc4f16040ae4e2269d5a83c77e6ec7f89d1eee7018e77767cd67b2716c4115", func := "cartouche/cartouchelaw08.HistoryPrefix", spec := "historyPrefix", unfollowed := true, recurses := true, apart := false }
def HistoryPrefixSaid : Prop := historyPrefixRow.holds Try.pinned (OpenSpec.ofChange historyPrefixSpec)

/-- ITS FALSE NEIGHBOUR: 'it returns false'. Refute it at one input. -/
def historyPrefixWrong : ChangeSpec := { name := "historyPrefix", fn := fun _ => fun
  | [d1, d2] => { results := [.lit (.bool false)], args := [d1, d2] }
  | _ => none }
def HistoryPrefixWrongFalsely : Prop := historyPrefixRow.holds Try.pinned (OpenSpec.ofChange historyPrefixWrong)

/-- 'cartouchelaw08.HistoryLast': WHATEVER THE INPUT: true; the input reads as it did. -/
def historyLastSpec : ChangeSpec := { name := "historyLast", fn := fun _ => fun
  | [d] => { results := [.lit (.bool true)], args := [d] }
  | _ => none }
def historyLastRow : OpenClaim := { program := "ytpmcmohdhicfcaa", sum := "acfc4f16040ae4e2269d5a83c77e6ec7f89d1eee7018e77767cd67b2716c4115", func := "cartouche/cartouchelaw08.HistoryLast", spec := "historyLast", unfollowed := true, recurses := true, apart := false }
def HistoryLastSaid : Prop := historyLastRow.holds Try.pinned (OpenSpec.ofChange historyLastSpec)

/-- ITS FALSE NEIGHBOUR: 'it returns false'. Refute it at one input. -/
def historyLastWrong : ChangeSpec := { name := "historyLast", fn := fun _ => fun
  | [d] => { results := [.lit (.bool false)], args := [d] }
  | _ => none }
def HistoryLastWrongFalsely : Prop := historyLastRow.holds Try.pinned (OpenSpec.ofChange historyLastWrong)

/- THE SECOND FORM. 'bulk': how many values and letters a reading holds, each counted each time it is reached (what is shared counts as often as it is met; a slice's spare places count too). A statement '..UptoSaid' is the law's where the arguments, and the package variables that the reading takes, are together of bulk at most 1048576: NARROWER than '..Said'. Prove '..Said' where nothing that the law and all that it calls make is longer than what came in: it says more and counts as full. Else prove '..UptoSaid'. A law counts once. -/
mutual
def uptoBulk {H : Type} : DataW H → Nat
  | .lit (.string bytes) => bytes.length + 1
  | .lit _ => 1
  | .nil => 1
  | .ptr d => uptoBulk d + 1
  | .slice elems spare => uptoBulkAll elems + uptoBulkAll spare + 1
  | .agg parts => uptoBulkAll parts + 1
  | .iface _ d => uptoBulk d + 1
  | .map entries => uptoBulkEntries entries + 1
  | .held _ => 1
def uptoBulkAll {H : Type} : List (DataW H) → Nat
  | [] => 0
  | d :: r => uptoBulk d + uptoBulkAll r
def uptoBulkEntries {H : Type} : List (Lit × DataW H) → Nat
  | [] => 0
  | x :: r => uptoBulkEntry x + uptoBulkEntries r
def uptoBulkEntry {H : Type} : Lit × DataW H → Nat
  | (.string bytes, d) => bytes.length + uptoBulk d + 1
  | (_, d) => uptoBulk d + 1
 end
def uptoSmall : (H : Type) → List (DataW H) → Bool := fun _ ds => decide (uptoBulkAll ds ≤ 1048576)
def OpenSpec.upto (s : _root_.Go.ChangeSpec) : _root_.Go.OpenSpec := { _root_.Go.OpenSpec.ofChange s with cond := some uptoSmall }

/-- 'cartouchelaw08.HistoryForms', WHERE WHAT IT READS IS OF BULK AT MOST 1048576: true; the input reads as it did. -/
def historyFormsUptoRow : OpenClaim := { program := "ytpmcmohdhicfcaa", sum := "acfc4f16040ae4e2269d5a83c77e6ec7f89d1eee7018e77767cd67b2716c4115", func := "cartouche/cartouchelaw08.HistoryForms", spec := "historyForms", unfollowed := true, recurses := true, apart := false, narrowed := true }
def HistoryFormsUptoSaid : Prop := historyFormsUptoRow.holds Try.pinned (OpenSpec.upto historyFormsSpec)

/-- 'cartouchelaw08.HistoryLives', WHERE WHAT IT READS IS OF BULK AT MOST 1048576: true; the input reads as it did. -/
def historyLivesUptoRow : OpenClaim := { program := "ytpmcmohdhicfcaa", sum := "acfc4f16040ae4e2269d5a83c77e6ec7f89d1eee7018e77767cd67b2716c4115", func := "cartouche/cartouchelaw08.HistoryLives", spec := "historyLives", unfollowed := true, recurses := true, apart := false, narrowed := true }
def HistoryLivesUptoSaid : Prop := historyLivesUptoRow.holds Try.pinned (OpenSpec.upto historyLivesSpec)

/-- 'cartouchelaw08.HistoryWrites', WHERE WHAT IT READS IS OF BULK AT MOST 1048576: true; the input reads as it did. -/
def historyWritesUptoRow : OpenClaim := { program := "ytpmcmohdhicfcaa", sum := "acfc4f16040ae4e2269d5a83c77e6ec7f89d1eee7018e77767cd67b2716c4115", func := "cartouche/cartouchelaw08.HistoryWrites", spec := "historyWrites", unfollowed := true, recurses := true, apart := false, narrowed := true }
def HistoryWritesUptoSaid : Prop := historyWritesUptoRow.holds Try.pinned (OpenSpec.upto historyWritesSpec)

/-- 'cartouchelaw08.HistoryOnce', WHERE WHAT IT READS IS OF BULK AT MOST 1048576: true; the input reads as it did. -/
def historyOnceUptoRow : OpenClaim := { program := "ytpmcmohdhicfcaa", sum := "acfc4f16040ae4e2269d5a83c77e6ec7f89d1eee7018e77767cd67b2716c4115", func := "cartouche/cartouchelaw08.HistoryOnce", spec := "historyOnce", unfollowed := true, recurses := true, apart := false, narrowed := true }
def HistoryOnceUptoSaid : Prop := historyOnceUptoRow.holds Try.pinned (OpenSpec.upto historyOnceSpec)

/-- 'cartouchelaw08.HistoryVersions', WHERE WHAT IT READS IS OF BULK AT MOST 1048576: true; the input reads as it did. -/
def historyVersionsUptoRow : OpenClaim := { program := "ytpmcmohdhicfcaa", sum := "acfc4f16040ae4e2269d5a83c77e6ec7f89d1eee7018e77767cd67b2716c4115", func := "cartouche/cartouchelaw08.HistoryVersions", spec := "historyVersions", unfollowed := true, recurses := true, apart := false, narrowed := true }
def HistoryVersionsUptoSaid : Prop := historyVersionsUptoRow.holds Try.pinned (OpenSpec.upto historyVersionsSpec)

/-- 'cartouchelaw08.HistoryGrows', WHERE WHAT IT READS IS OF BULK AT MOST 1048576: true; the input reads as it did. -/
def historyGrowsUptoRow : OpenClaim := { program := "ytpmcmohdhicfcaa", sum := "acfc4f16040ae4e2269d5a83c77e6ec7f89d1eee7018e77767cd67b2716c4115", func := "cartouche/cartouchelaw08.HistoryGrows", spec := "historyGrows", unfollowed := true, recurses := true, apart := false, narrowed := true }
def HistoryGrowsUptoSaid : Prop := historyGrowsUptoRow.holds Try.pinned (OpenSpec.upto historyGrowsSpec)

/-- 'cartouchelaw08.HistoryPrefix', WHERE WHAT IT READS IS OF BULK AT MOST 1048576: true; the input reads as it did. -/
def historyPrefixUptoRow : OpenClaim := { program := "ytpmcmohdhicfcaa", sum := "acfc4f16040ae4e2269d5a83c77e6ec7f89d1eee7018e77767cd67b2716c4115", func := "cartouche/cartouchelaw08.HistoryPrefix", spec := "historyPrefix", unfollowed := true, recurses := true, apart := false, narrowed := true }
def HistoryPrefixUptoSaid : Prop := historyPrefixUptoRow.holds Try.pinned (OpenSpec.upto historyPrefixSpec)

/-- 'cartouchelaw08.HistoryLast', WHERE WHAT IT READS IS OF BULK AT MOST 1048576: true; the input reads as it did. -/
def historyLastUptoRow : OpenClaim := { program := "ytpmcmohdhicfcaa", sum := "acfc4f16040ae4e2269d5a83c77e6ec7f89d1eee7018e77767cd67b2716c4115", func := "cartouche/cartouchelaw08.HistoryLast", spec := "historyLast", unfollowed := true, recurses := true, apart := false, narrowed := true }
def HistoryLastUptoSaid : Prop := historyLastUptoRow.holds Try.pinned (OpenSpec.upto historyLastSpec)

end Rows
end Go.Proofs.Ytpmcmohdhicfcaa
