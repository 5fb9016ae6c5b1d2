/-
  DERIVED. GIVEN WITH THE SEED: THE CARDS: each row of YtihggfkenhkglaaDoorRows.lean that lists a variable, with what it lists TIED to the program's text (the seventh form; the later family's looks); each row that meets fmt, with fmt's text TOLD by the authors' own Lean function (tested against real Go, not proved from fmt's source: count such statements apart). THE CARD IS WHAT COUNTS. Prove the row's statement (the work); the ties are given (YtihggfkenhkglaaDoorTie.lean); close each card by the builder's one call (the guide's Derived/Test/ToyasCard.lean, 'card_holds'). Laid BY PROGRAM, IN A SANDBOX (cutbox-door.mjs). By AI agents, Wed Nov 11 2026. No macro, syntax, notation, axiom, sorry.
-/
import Derived.Test.YtihggfkenhkglaaDoorRows
import GoSem.ClaimSeven
namespace Go.Proofs.YtihggfkenhkglaaDoor
namespace Rows

/-- THE TIED CARD OF 'cartouchelaw07.RedactTags'. -/
def redactTagsCard : Claim7 := { stood := { row := redactTagsRow, standIns := [], harness := (true, "211ddc04bc0151c21a1130d45fbc2f5a4bf60bf7e596b6dd49d766a84cd739e4"), looks := false }, kinds := [], alts := [], laidByText := true, laidKinds := [.data, .data, .data, .data, .data, .data], laidTests := true, laidLooks := .later }
def RedactTagsCardSaid : Prop := Claim7.holds Tryd.pinned (.plain (OpenSpec.ofChange redactTagsSpec)) redactTagsCard

/-- THE TIED CARD OF 'cartouchelaw07.RedactRows'. -/
def redactRowsCard : Claim7 := { stood := { row := redactRowsRow, standIns := [], harness := (true, "211ddc04bc0151c21a1130d45fbc2f5a4bf60bf7e596b6dd49d766a84cd739e4"), looks := false }, kinds := [], alts := [], laidByText := true, laidKinds := [.data, .data, .data, .data, .data, .data], laidTests := true, laidLooks := .later }
def RedactRowsCardSaid : Prop := Claim7.holds Tryd.pinned (.plain (OpenSpec.ofChange redactRowsSpec)) redactRowsCard

/-- THE TIED CARD OF 'cartouchelaw07.RedactShape'. -/
def redactShapeCard : Claim7 := { stood := { row := redactShapeRow, standIns := [], harness := (true, "211ddc04bc0151c21a1130d45fbc2f5a4bf60bf7e596b6dd49d766a84cd739e4"), looks := false }, kinds := [], alts := [], laidByText := true, laidKinds := [.data, .data, .data, .data, .data, .data], laidTests := true, laidLooks := .later }
def RedactShapeCardSaid : Prop := Claim7.holds Tryd.pinned (.plain (OpenSpec.ofChange redactShapeSpec)) redactShapeCard

/-- THE TIED CARD OF 'cartouchelaw07.RedactNames'. -/
def redactNamesCard : Claim7 := { stood := { row := redactNamesRow, standIns := [], harness := (true, "211ddc04bc0151c21a1130d45fbc2f5a4bf60bf7e596b6dd49d766a84cd739e4"), looks := false }, kinds := [], alts := [], laidByText := true, laidKinds := [.data, .data, .data], laidTests := true, laidLooks := .later }
def RedactNamesCardSaid : Prop := Claim7.holds Tryd.pinned (.plain (OpenSpec.ofChange redactNamesSpec)) redactNamesCard

/-- THE TIED CARD OF 'cartouchelaw07.RedactHides'. -/
def redactHidesCard : Claim7 := { stood := { row := redactHidesRow, standIns := [], harness := (true, "211ddc04bc0151c21a1130d45fbc2f5a4bf60bf7e596b6dd49d766a84cd739e4"), looks := false }, kinds := [], alts := [], laidByText := true, laidKinds := [.data, .data, .data, .data, .data, .data], laidTests := true, laidLooks := .later }
def RedactHidesCardSaid : Prop := Claim7.holds Tryd.pinned (.plain (OpenSpec.ofChange redactHidesSpec)) redactHidesCard

/-- THE TIED CARD OF 'cartouchelaw07.RedactAgain'. -/
def redactAgainCard : Claim7 := { stood := { row := redactAgainRow, standIns := [], harness := (true, "211ddc04bc0151c21a1130d45fbc2f5a4bf60bf7e596b6dd49d766a84cd739e4"), looks := false }, kinds := [], alts := [], laidByText := true, laidKinds := [.data, .data, .data, .data, .data, .data], laidTests := true, laidLooks := .later }
def RedactAgainCardSaid : Prop := Claim7.holds Tryd.pinned (.plain (OpenSpec.ofChange redactAgainSpec)) redactAgainCard

/-- THE TIED CARD OF 'cartouchelaw07.RedactBegins'. -/
def redactBeginsCard : Claim7 := { stood := { row := redactBeginsRow, standIns := [], harness := (true, "211ddc04bc0151c21a1130d45fbc2f5a4bf60bf7e596b6dd49d766a84cd739e4"), looks := false }, kinds := [], alts := [], laidByText := true, laidKinds := [.data, .data, .data], laidTests := true, laidLooks := .later }
def RedactBeginsCardSaid : Prop := Claim7.holds Tryd.pinned (.plain (OpenSpec.ofChange redactBeginsSpec)) redactBeginsCard

/-- THE SECOND FORM's CARD OF 'cartouchelaw07.RedactTags'. -/
def redactTagsUptoCard : Claim7 := { stood := { row := redactTagsUptoRow, standIns := [], harness := (true, "211ddc04bc0151c21a1130d45fbc2f5a4bf60bf7e596b6dd49d766a84cd739e4"), looks := false }, kinds := [], alts := [], laidByText := true, laidKinds := [.data, .data, .data, .data, .data, .data], laidTests := true, laidLooks := .later }
def RedactTagsUptoCardSaid : Prop := Claim7.holds Tryd.pinned (.plain (OpenSpec.upto redactTagsSpec)) redactTagsUptoCard

/-- THE SECOND FORM's CARD OF 'cartouchelaw07.RedactRows'. -/
def redactRowsUptoCard : Claim7 := { stood := { row := redactRowsUptoRow, standIns := [], harness := (true, "211ddc04bc0151c21a1130d45fbc2f5a4bf60bf7e596b6dd49d766a84cd739e4"), looks := false }, kinds := [], alts := [], laidByText := true, laidKinds := [.data, .data, .data, .data, .data, .data], laidTests := true, laidLooks := .later }
def RedactRowsUptoCardSaid : Prop := Claim7.holds Tryd.pinned (.plain (OpenSpec.upto redactRowsSpec)) redactRowsUptoCard

/-- THE SECOND FORM's CARD OF 'cartouchelaw07.RedactShape'. -/
def redactShapeUptoCard : Claim7 := { stood := { row := redactShapeUptoRow, standIns := [], harness := (true, "211ddc04bc0151c21a1130d45fbc2f5a4bf60bf7e596b6dd49d766a84cd739e4"), looks := false }, kinds := [], alts := [], laidByText := true, laidKinds := [.data, .data, .data, .data, .data, .data], laidTests := true, laidLooks := .later }
def RedactShapeUptoCardSaid : Prop := Claim7.holds Tryd.pinned (.plain (OpenSpec.upto redactShapeSpec)) redactShapeUptoCard

/-- THE SECOND FORM's CARD OF 'cartouchelaw07.RedactNames'. -/
def redactNamesUptoCard : Claim7 := { stood := { row := redactNamesUptoRow, standIns := [], harness := (true, "211ddc04bc0151c21a1130d45fbc2f5a4bf60bf7e596b6dd49d766a84cd739e4"), looks := false }, kinds := [], alts := [], laidByText := true, laidKinds := [.data, .data, .data], laidTests := true, laidLooks := .later }
def RedactNamesUptoCardSaid : Prop := Claim7.holds Tryd.pinned (.plain (OpenSpec.upto redactNamesSpec)) redactNamesUptoCard

/-- THE SECOND FORM's CARD OF 'cartouchelaw07.RedactHides'. -/
def redactHidesUptoCard : Claim7 := { stood := { row := redactHidesUptoRow, standIns := [], harness := (true, "211ddc04bc0151c21a1130d45fbc2f5a4bf60bf7e596b6dd49d766a84cd739e4"), looks := false }, kinds := [], alts := [], laidByText := true, laidKinds := [.data, .data, .data, .data, .data, .data], laidTests := true, laidLooks := .later }
def RedactHidesUptoCardSaid : Prop := Claim7.holds Tryd.pinned (.plain (OpenSpec.upto redactHidesSpec)) redactHidesUptoCard

/-- THE SECOND FORM's CARD OF 'cartouchelaw07.RedactAgain'. -/
def redactAgainUptoCard : Claim7 := { stood := { row := redactAgainUptoRow, standIns := [], harness := (true, "211ddc04bc0151c21a1130d45fbc2f5a4bf60bf7e596b6dd49d766a84cd739e4"), looks := false }, kinds := [], alts := [], laidByText := true, laidKinds := [.data, .data, .data, .data, .data, .data], laidTests := true, laidLooks := .later }
def RedactAgainUptoCardSaid : Prop := Claim7.holds Tryd.pinned (.plain (OpenSpec.upto redactAgainSpec)) redactAgainUptoCard

/-- THE SECOND FORM's CARD OF 'cartouchelaw07.RedactBegins'. -/
def redactBeginsUptoCard : Claim7 := { stood := { row := redactBeginsUptoRow, standIns := [], harness := (true, "211ddc04bc0151c21a1130d45fbc2f5a4bf60bf7e596b6dd49d766a84cd739e4"), looks := false }, kinds := [], alts := [], laidByText := true, laidKinds := [.data, .data, .data], laidTests := true, laidLooks := .later }
def RedactBeginsUptoCardSaid : Prop := Claim7.holds Tryd.pinned (.plain (OpenSpec.upto redactBeginsSpec)) redactBeginsUptoCard
end Rows
end Go.Proofs.YtihggfkenhkglaaDoor
