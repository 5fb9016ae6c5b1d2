/-
  DERIVED. GIVEN WITH THE SEED: THE CARDS: each row of YtkkenfhlgpjmjaaGreatDoorRows.lean that lists a variable, with what it lists TIED to the program's text (the seventh form; the later family's looks); each row that meets fmt, with fmt's text TOLD by the authors' own Lean function (tested against real Go, not proved from fmt's source: count such statements apart). THE CARD IS WHAT COUNTS. Prove the row's statement (the work); the ties are given (YtkkenfhlgpjmjaaGreatDoorTie.lean); close each card by the builder's one call (the guide's Derived/Test/ToyasCard.lean, 'card_holds'). Laid BY PROGRAM, IN A SANDBOX (cutbox-door.mjs). By AI agents, Wed Nov 11 2026. No macro, syntax, notation, axiom, sorry.
-/
import Derived.Test.YtkkenfhlgpjmjaaGreatDoorRows
import GoSem.ClaimSeven
namespace Go.Proofs.YtkkenfhlgpjmjaaGreatDoor
namespace Rows

/-- THE TIED CARD OF 'cartouchelaw14.CertMakes'. -/
def certMakesCard : Claim7 := { stood := { row := certMakesRow, standIns := [], harness := (true, "3c95eb273739a7fa234e771b1df7ca582450fa218d1335baaf381603a92cba4d"), looks := true }, kinds := [], alts := [], laidByText := true, laidKinds := [.data, .data, .data], laidTests := true, laidLooks := .later }
def CertMakesCardSaid : Prop := Claim7.holds Tryz.pinned (.plain (OpenSpec.ofChange certMakesSpec)) certMakesCard

/-- THE TIED CARD OF 'cartouchelaw14.CertBytes'. -/
def certBytesCard : Claim7 := { stood := { row := certBytesRow, standIns := [], harness := (true, "3c95eb273739a7fa234e771b1df7ca582450fa218d1335baaf381603a92cba4d"), looks := true }, kinds := [], alts := [], laidByText := true, laidKinds := [.data, .data, .data], laidTests := true, laidLooks := .later }
def CertBytesCardSaid : Prop := Claim7.holds Tryz.pinned (.plain (OpenSpec.ofChange certBytesSpec)) certBytesCard

/-- THE TIED CARD OF 'cartouchelaw14.CertBack'. -/
def certBackCard : Claim7 := { stood := { row := certBackRow, standIns := [], harness := (true, "3c95eb273739a7fa234e771b1df7ca582450fa218d1335baaf381603a92cba4d"), looks := true }, kinds := [], alts := [], laidByText := true, laidKinds := [.data, .data, .data], laidTests := true, laidLooks := .later }
def CertBackCardSaid : Prop := Claim7.holds Tryz.pinned (.plain (OpenSpec.ofChange certBackSpec)) certBackCard

/-- THE TIED CARD OF 'cartouchelaw14.CertApart'. -/
def certApartCard : Claim7 := { stood := { row := certApartRow, standIns := [], harness := (true, "3c95eb273739a7fa234e771b1df7ca582450fa218d1335baaf381603a92cba4d"), looks := true }, kinds := [], alts := [], laidByText := true, laidKinds := [.data, .data, .data], laidTests := true, laidLooks := .later }
def CertApartCardSaid : Prop := Claim7.holds Tryz.pinned (.plain (OpenSpec.ofChange certApartSpec)) certApartCard

/-- THE TIED CARD OF 'cartouchelaw14.CertOwn'. -/
def certOwnCard : Claim7 := { stood := { row := certOwnRow, standIns := [], harness := (true, "3c95eb273739a7fa234e771b1df7ca582450fa218d1335baaf381603a92cba4d"), looks := true }, kinds := [], alts := [], laidByText := true, laidKinds := [.data, .data, .data], laidTests := true, laidLooks := .later }
def CertOwnCardSaid : Prop := Claim7.holds Tryz.pinned (.plain (OpenSpec.ofChange certOwnSpec)) certOwnCard

/-- THE TIED CARD OF 'cartouchelaw14.CertNeeds'. -/
def certNeedsCard : Claim7 := { stood := { row := certNeedsRow, standIns := [], harness := (true, "3c95eb273739a7fa234e771b1df7ca582450fa218d1335baaf381603a92cba4d"), looks := true }, kinds := [], alts := [], laidByText := true, laidKinds := [.data, .data, .data], laidTests := true, laidLooks := .later }
def CertNeedsCardSaid : Prop := Claim7.holds Tryz.pinned (.plain (OpenSpec.ofChange certNeedsSpec)) certNeedsCard

/-- THE TIED CARD OF 'cartouchelaw14.CertEdges'. -/
def certEdgesCard : Claim7 := { stood := { row := certEdgesRow, standIns := [], harness := (true, "3c95eb273739a7fa234e771b1df7ca582450fa218d1335baaf381603a92cba4d"), looks := true }, kinds := [], alts := [], laidByText := true, laidKinds := [.data, .data, .data], laidTests := true, laidLooks := .later }
def CertEdgesCardSaid : Prop := Claim7.holds Tryz.pinned (.plain (OpenSpec.ofChange certEdgesSpec)) certEdgesCard

/-- THE SECOND FORM's CARD OF 'cartouchelaw14.CertMakes'. -/
def certMakesUptoCard : Claim7 := { stood := { row := certMakesUptoRow, standIns := [], harness := (true, "3c95eb273739a7fa234e771b1df7ca582450fa218d1335baaf381603a92cba4d"), looks := true }, kinds := [], alts := [], laidByText := true, laidKinds := [.data, .data, .data], laidTests := true, laidLooks := .later }
def CertMakesUptoCardSaid : Prop := Claim7.holds Tryz.pinned (.plain (OpenSpec.upto certMakesSpec)) certMakesUptoCard

/-- THE SECOND FORM's CARD OF 'cartouchelaw14.CertBytes'. -/
def certBytesUptoCard : Claim7 := { stood := { row := certBytesUptoRow, standIns := [], harness := (true, "3c95eb273739a7fa234e771b1df7ca582450fa218d1335baaf381603a92cba4d"), looks := true }, kinds := [], alts := [], laidByText := true, laidKinds := [.data, .data, .data], laidTests := true, laidLooks := .later }
def CertBytesUptoCardSaid : Prop := Claim7.holds Tryz.pinned (.plain (OpenSpec.upto certBytesSpec)) certBytesUptoCard

/-- THE SECOND FORM's CARD OF 'cartouchelaw14.CertBack'. -/
def certBackUptoCard : Claim7 := { stood := { row := certBackUptoRow, standIns := [], harness := (true, "3c95eb273739a7fa234e771b1df7ca582450fa218d1335baaf381603a92cba4d"), looks := true }, kinds := [], alts := [], laidByText := true, laidKinds := [.data, .data, .data], laidTests := true, laidLooks := .later }
def CertBackUptoCardSaid : Prop := Claim7.holds Tryz.pinned (.plain (OpenSpec.upto certBackSpec)) certBackUptoCard

/-- THE SECOND FORM's CARD OF 'cartouchelaw14.CertApart'. -/
def certApartUptoCard : Claim7 := { stood := { row := certApartUptoRow, standIns := [], harness := (true, "3c95eb273739a7fa234e771b1df7ca582450fa218d1335baaf381603a92cba4d"), looks := true }, kinds := [], alts := [], laidByText := true, laidKinds := [.data, .data, .data], laidTests := true, laidLooks := .later }
def CertApartUptoCardSaid : Prop := Claim7.holds Tryz.pinned (.plain (OpenSpec.upto certApartSpec)) certApartUptoCard

/-- THE SECOND FORM's CARD OF 'cartouchelaw14.CertOwn'. -/
def certOwnUptoCard : Claim7 := { stood := { row := certOwnUptoRow, standIns := [], harness := (true, "3c95eb273739a7fa234e771b1df7ca582450fa218d1335baaf381603a92cba4d"), looks := true }, kinds := [], alts := [], laidByText := true, laidKinds := [.data, .data, .data], laidTests := true, laidLooks := .later }
def CertOwnUptoCardSaid : Prop := Claim7.holds Tryz.pinned (.plain (OpenSpec.upto certOwnSpec)) certOwnUptoCard

/-- THE SECOND FORM's CARD OF 'cartouchelaw14.CertNeeds'. -/
def certNeedsUptoCard : Claim7 := { stood := { row := certNeedsUptoRow, standIns := [], harness := (true, "3c95eb273739a7fa234e771b1df7ca582450fa218d1335baaf381603a92cba4d"), looks := true }, kinds := [], alts := [], laidByText := true, laidKinds := [.data, .data, .data], laidTests := true, laidLooks := .later }
def CertNeedsUptoCardSaid : Prop := Claim7.holds Tryz.pinned (.plain (OpenSpec.upto certNeedsSpec)) certNeedsUptoCard

/-- THE SECOND FORM's CARD OF 'cartouchelaw14.CertEdges'. -/
def certEdgesUptoCard : Claim7 := { stood := { row := certEdgesUptoRow, standIns := [], harness := (true, "3c95eb273739a7fa234e771b1df7ca582450fa218d1335baaf381603a92cba4d"), looks := true }, kinds := [], alts := [], laidByText := true, laidKinds := [.data, .data, .data], laidTests := true, laidLooks := .later }
def CertEdgesUptoCardSaid : Prop := Claim7.holds Tryz.pinned (.plain (OpenSpec.upto certEdgesSpec)) certEdgesUptoCard
end Rows
end Go.Proofs.YtkkenfhlgpjmjaaGreatDoor
