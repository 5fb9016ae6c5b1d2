/-
  NARROWER THAN 'FOR EVERY INPUT', by the rows' own cells (each row's printed sentence says how): CertMakes: laid · CertBytes: laid · CertBack: laid · CertApart: laid · CertOwn: laid · CertNeeds: laid · CertEdges: laid.
  DERIVED. THE GIVEN ROWS OF THIS SEAT. 7 by the template 'for every input the law returns true; each argument reads behind the call as it read before'; 0 by the template 'total and deterministic' (their statements: YtkkenfhlgpjmjaaGreatDoorTotals.lean).
  GIVEN WITH THE SEED: the statements are not yours to turn. If you find one false, say at which input.
  Laid BY PROGRAM, IN A SANDBOX (cutbox-rows.mjs): the forced cells as the released guide's own fill.sh prints them over the translation 54ec0a9f949821df… (all of the seat's roots in one cut). By AI agents, Wed Nov 11 2026. No macro, syntax, notation, axiom, sorry.
-/
import Derived.Test.YtkkenfhlgpjmjaaGreatDoorChecked
import GoSem.Claim
import GoSem.ClaimJoined
import GoSem.ClaimMapViews
import Derived.JoinedTies
import Derived.KernelRfl
namespace Go.Proofs.YtkkenfhlgpjmjaaGreatDoor
/- THE CELL 'sum', in the pinned program and in every row, IS THE sha256 OF THE DUMP (.gsa) THAT YtkkenfhlgpjmjaaGreatDoorProg.lean LOADS. Nothing in Lean hashes anything: it is a label: what it is worth is what the hold of that sum in a sandbox is worth. -/
noncomputable def Tryz.pinned : Pinned := { name := "ytkkenfhlgpjmjaagreatdoor", sum := "54ec0a9f949821df3df340db2abf56e3f954f6b32d4f7670eac42b4a3e7144be", checked := Tryz.checked }
namespace Rows
def none {H : Type} : Left H := { results := [], args := [] }

/- WHAT THE LISTED PACKAGE-LEVEL VARIABLES READ AS WHEN THE CALL BEGINS. Each datum BY PROGRAM (the guide's laid-datum.mjs) off the statement by which the dump's own 'gosem.cut.vars' lays the variable. In a bare row this is a premise. The card (YtkkenfhlgpjmjaaGreatDoorCards.lean) ties it to the program's text. -/
def laid_cartouche_blake_beginning {H : Type} : DataW H := .agg [.lit (.int .u32 1779033703), .lit (.int .u32 3144134277), .lit (.int .u32 1013904242), .lit (.int .u32 2773480762), .lit (.int .u32 1359893119), .lit (.int .u32 2600822924), .lit (.int .u32 528734635), .lit (.int .u32 1541459225)]
def laid_cartouche_blake_orders {H : Type} : DataW H := .agg [.lit (.int .u64 81985529216486895), .lit (.int .u64 16881918945140062035), .lit (.int .u64 13312731748010193300), .lit (.int .u64 8733003861693448440), .lit (.int .u64 10400822202260547645), .lit (.int .u64 3200383143768358425), .lit (.int .u64 14204332651957162635), .lit (.int .u64 15816291393287259690), .lit (.int .u64 8064173457993569445), .lit (.int .u64 11710614767857974480)]
def laid_cartouche_blake_mixings {H : Type} : DataW H := .agg [.agg [.lit (.int .i64 0), .lit (.int .i64 4), .lit (.int .i64 8), .lit (.int .i64 12)], .agg [.lit (.int .i64 1), .lit (.int .i64 5), .lit (.int .i64 9), .lit (.int .i64 13)], .agg [.lit (.int .i64 2), .lit (.int .i64 6), .lit (.int .i64 10), .lit (.int .i64 14)], .agg [.lit (.int .i64 3), .lit (.int .i64 7), .lit (.int .i64 11), .lit (.int .i64 15)], .agg [.lit (.int .i64 0), .lit (.int .i64 5), .lit (.int .i64 10), .lit (.int .i64 15)], .agg [.lit (.int .i64 1), .lit (.int .i64 6), .lit (.int .i64 11), .lit (.int .i64 12)], .agg [.lit (.int .i64 2), .lit (.int .i64 7), .lit (.int .i64 8), .lit (.int .i64 13)], .agg [.lit (.int .i64 3), .lit (.int .i64 4), .lit (.int .i64 9), .lit (.int .i64 14)]]

/-- 'cartouchelaw14.CertMakes': WHATEVER THE INPUT: true; the input reads as it did. -/
def certMakesSpec : ChangeSpec := { name := "certMakes", fn := fun _ => fun
  | [d] => { results := [.lit (.bool true)], args := [d] }
  | _ => none }
def certMakesRow : OpenClaim := { program := "ytkkenfhlgpjmjaagreatdoor", sum := "54ec0a9f949821df3df340db2abf56e3f954f6b32d4f7670eac42b4a3e7144be", func := "cartouche/cartouchelaw14.CertMakes", spec := "certMakes", unfollowed := true, recurses := true, named := ["cartouche/blake.beginning", "cartouche/blake.orders", "cartouche/blake.mixings"], apart := false, laid := [("cartouche/blake.beginning", laid_cartouche_blake_beginning), ("cartouche/blake.orders", laid_cartouche_blake_orders), ("cartouche/blake.mixings", laid_cartouche_blake_mixings)] }
def CertMakesSaid : Prop := certMakesRow.holds Tryz.pinned (OpenSpec.ofChange certMakesSpec)

/-- ITS FALSE NEIGHBOUR: 'it returns false'. Refute it at one input. -/
def certMakesWrong : ChangeSpec := { name := "certMakes", fn := fun _ => fun
  | [d] => { results := [.lit (.bool false)], args := [d] }
  | _ => none }
def CertMakesWrongFalsely : Prop := certMakesRow.holds Tryz.pinned (OpenSpec.ofChange certMakesWrong)

/-- 'cartouchelaw14.CertBytes': WHATEVER THE INPUT: true; the input reads as it did. -/
def certBytesSpec : ChangeSpec := { name := "certBytes", fn := fun _ => fun
  | [d1, d2, d3] => { results := [.lit (.bool true)], args := [d1, d2, d3] }
  | _ => none }
def certBytesRow : OpenClaim := { program := "ytkkenfhlgpjmjaagreatdoor", sum := "54ec0a9f949821df3df340db2abf56e3f954f6b32d4f7670eac42b4a3e7144be", func := "cartouche/cartouchelaw14.CertBytes", spec := "certBytes", inPlace := ["internal/abi.NoEscape"], unfollowed := true, recurses := true, named := ["cartouche/blake.beginning", "cartouche/blake.orders", "cartouche/blake.mixings"], apart := false, laid := [("cartouche/blake.beginning", laid_cartouche_blake_beginning), ("cartouche/blake.orders", laid_cartouche_blake_orders), ("cartouche/blake.mixings", laid_cartouche_blake_mixings)] }
def CertBytesSaid : Prop := certBytesRow.holds Tryz.pinned (OpenSpec.ofChange certBytesSpec)

/-- ITS FALSE NEIGHBOUR: 'it returns false'. Refute it at one input. -/
def certBytesWrong : ChangeSpec := { name := "certBytes", fn := fun _ => fun
  | [d1, d2, d3] => { results := [.lit (.bool false)], args := [d1, d2, d3] }
  | _ => none }
def CertBytesWrongFalsely : Prop := certBytesRow.holds Tryz.pinned (OpenSpec.ofChange certBytesWrong)

/-- 'cartouchelaw14.CertBack': WHATEVER THE INPUT: true; the input reads as it did. -/
def certBackSpec : ChangeSpec := { name := "certBack", fn := fun _ => fun
  | [d1, d2] => { results := [.lit (.bool true)], args := [d1, d2] }
  | _ => none }
def certBackRow : OpenClaim := { program := "ytkkenfhlgpjmjaagreatdoor", sum := "54ec0a9f949821df3df340db2abf56e3f954f6b32d4f7670eac42b4a3e7144be", func := "cartouche/cartouchelaw14.CertBack", spec := "certBack", inPlace := ["internal/abi.NoEscape"], unfollowed := true, recurses := true, named := ["cartouche/blake.beginning", "cartouche/blake.orders", "cartouche/blake.mixings"], apart := false, laid := [("cartouche/blake.beginning", laid_cartouche_blake_beginning), ("cartouche/blake.orders", laid_cartouche_blake_orders), ("cartouche/blake.mixings", laid_cartouche_blake_mixings)] }
def CertBackSaid : Prop := certBackRow.holds Tryz.pinned (OpenSpec.ofChange certBackSpec)

/-- ITS FALSE NEIGHBOUR: 'it returns false'. Refute it at one input. -/
def certBackWrong : ChangeSpec := { name := "certBack", fn := fun _ => fun
  | [d1, d2] => { results := [.lit (.bool false)], args := [d1, d2] }
  | _ => none }
def CertBackWrongFalsely : Prop := certBackRow.holds Tryz.pinned (OpenSpec.ofChange certBackWrong)

/-- 'cartouchelaw14.CertApart': WHATEVER THE INPUT: true; the input reads as it did. -/
def certApartSpec : ChangeSpec := { name := "certApart", fn := fun _ => fun
  | [d1, d2, d3] => { results := [.lit (.bool true)], args := [d1, d2, d3] }
  | _ => none }
def certApartRow : OpenClaim := { program := "ytkkenfhlgpjmjaagreatdoor", sum := "54ec0a9f949821df3df340db2abf56e3f954f6b32d4f7670eac42b4a3e7144be", func := "cartouche/cartouchelaw14.CertApart", spec := "certApart", inPlace := ["internal/abi.NoEscape"], unfollowed := true, recurses := true, named := ["cartouche/blake.beginning", "cartouche/blake.orders", "cartouche/blake.mixings"], apart := false, laid := [("cartouche/blake.beginning", laid_cartouche_blake_beginning), ("cartouche/blake.orders", laid_cartouche_blake_orders), ("cartouche/blake.mixings", laid_cartouche_blake_mixings)] }
def CertApartSaid : Prop := certApartRow.holds Tryz.pinned (OpenSpec.ofChange certApartSpec)

/-- ITS FALSE NEIGHBOUR: 'it returns false'. Refute it at one input. -/
def certApartWrong : ChangeSpec := { name := "certApart", fn := fun _ => fun
  | [d1, d2, d3] => { results := [.lit (.bool false)], args := [d1, d2, d3] }
  | _ => none }
def CertApartWrongFalsely : Prop := certApartRow.holds Tryz.pinned (OpenSpec.ofChange certApartWrong)

/-- 'cartouchelaw14.CertOwn': WHATEVER THE INPUT: true; the input reads as it did. -/
def certOwnSpec : ChangeSpec := { name := "certOwn", fn := fun _ => fun
  | [d] => { results := [.lit (.bool true)], args := [d] }
  | _ => none }
def certOwnRow : OpenClaim := { program := "ytkkenfhlgpjmjaagreatdoor", sum := "54ec0a9f949821df3df340db2abf56e3f954f6b32d4f7670eac42b4a3e7144be", func := "cartouche/cartouchelaw14.CertOwn", spec := "certOwn", unfollowed := true, recurses := true, named := ["cartouche/blake.beginning", "cartouche/blake.orders", "cartouche/blake.mixings"], apart := false, laid := [("cartouche/blake.beginning", laid_cartouche_blake_beginning), ("cartouche/blake.orders", laid_cartouche_blake_orders), ("cartouche/blake.mixings", laid_cartouche_blake_mixings)] }
def CertOwnSaid : Prop := certOwnRow.holds Tryz.pinned (OpenSpec.ofChange certOwnSpec)

/-- ITS FALSE NEIGHBOUR: 'it returns false'. Refute it at one input. -/
def certOwnWrong : ChangeSpec := { name := "certOwn", fn := fun _ => fun
  | [d] => { results := [.lit (.bool false)], args := [d] }
  | _ => none }
def CertOwnWrongFalsely : Prop := certOwnRow.holds Tryz.pinned (OpenSpec.ofChange certOwnWrong)

/-- 'cartouchelaw14.CertNeeds': WHATEVER THE INPUT: true; the input reads as it did. -/
def certNeedsSpec : ChangeSpec := { name := "certNeeds", fn := fun _ => fun
  | [d1, d2] => { results := [.lit (.bool true)], args := [d1, d2] }
  | _ => none }
def certNeedsRow : OpenClaim := { program := "ytkkenfhlgpjmjaagreatdoor", sum := "54ec0a9f949821df3df340db2abf56e3f954f6b32d4f7670eac42b4a3e7144be", func := "cartouche/cartouchelaw14.CertNeeds", spec := "certNeeds", unfollowed := true, recurses := true, named := ["cartouche/blake.beginning", "cartouche/blake.orders", "cartouche/blake.mixings"], apart := false, laid := [("cartouche/blake.beginning", laid_cartouche_blake_beginning), ("cartouche/blake.orders", laid_cartouche_blake_orders), ("cartouche/blake.mixings", laid_cartouche_blake_mixings)] }
def CertNeedsSaid : Prop := certNeedsRow.holds Tryz.pinned (OpenSpec.ofChange certNeedsSpec)

/-- ITS FALSE NEIGHBOUR: 'it returns false'. Refute it at one input. -/
def certNeedsWrong : ChangeSpec := { name := "certNeeds", fn := fun _ => fun
  | [d1, d2] => { results := [.lit (.bool false)], args := [d1, d2] }
  | _ => none }
def CertNeedsWrongFalsely : Prop := certNeedsRow.holds Tryz.pinned (OpenSpec.ofChange certNeedsWrong)

/-- 'cartouchelaw14.CertEdges': WHATEVER THE INPUT: true; the input reads as it did. -/
def certEdgesSpec : ChangeSpec := { name := "certEdges", fn := fun _ => fun
  | [d1, d2, d3] => { results := [.lit (.bool true)], args := [d1, d2, d3] }
  | _ => none }
def certEdgesRow : OpenClaim := { program := "ytkkenfhlgpjmjaagreatdoor", sum := "54ec0a9f949821df3df340db2abf56e3f954f6b32d4f7670eac42b4a3e7144be", func := "cartouche/cartouchelaw14.CertEdges", spec := "certEdges", unfollowed := true, recurses := true, named := ["cartouche/blake.beginning", "cartouche/blake.orders", "cartouche/blake.mixings"], apart := false, laid := [("cartouche/blake.beginning", laid_cartouche_blake_beginning), ("cartouche/blake.orders", laid_cartouche_blake_orders), ("cartouche/blake.mixings", laid_cartouche_blake_mixings)] }
def CertEdgesSaid : Prop := certEdgesRow.holds Tryz.pinned (OpenSpec.ofChange certEdgesSpec)

/-- ITS FALSE NEIGHBOUR: 'it returns false'. Refute it at one input. -/
def certEdgesWrong : ChangeSpec := { name := "certEdges", fn := fun _ => fun
  | [d1, d2, d3] => { results := [.lit (.bool false)], args := [d1, d2, d3] }
  | _ => none }
def CertEdgesWrongFalsely : Prop := certEdgesRow.holds Tryz.pinned (OpenSpec.ofChange certEdgesWrong)

/- THE SECOND FORM. 'bulk': how many values and letters a reading holds, each counted each time it is reached (what is shared counts as often as it is met; a slice's spare places count too). A statement '..UptoSaid' is the law's where the arguments, and the package variables that the reading takes, are together of bulk at most 1048576: NARROWER than '..Said'. Prove '..Said' where nothing that the law and all that it calls make is longer than what came in: it says more and counts as full. Else prove '..UptoSaid'. A law counts once. -/
mutual
def uptoBulk {H : Type} : DataW H → Nat
  | .lit (.string bytes) => bytes.length + 1
  | .lit _ => 1
  | .nil => 1
  | .ptr d => uptoBulk d + 1
  | .slice elems spare => uptoBulkAll elems + uptoBulkAll spare + 1
  | .agg parts => uptoBulkAll parts + 1
  | .iface _ d => uptoBulk d + 1
  | .map entries => uptoBulkEntries entries + 1
  | .held _ => 1
def uptoBulkAll {H : Type} : List (DataW H) → Nat
  | [] => 0
  | d :: r => uptoBulk d + uptoBulkAll r
def uptoBulkEntries {H : Type} : List (Lit × DataW H) → Nat
  | [] => 0
  | x :: r => uptoBulkEntry x + uptoBulkEntries r
def uptoBulkEntry {H : Type} : Lit × DataW H → Nat
  | (.string bytes, d) => bytes.length + uptoBulk d + 1
  | (_, d) => uptoBulk d + 1
 end
def uptoSmall : (H : Type) → List (DataW H) → Bool := fun _ ds => decide (uptoBulkAll ds ≤ 1048576)
def OpenSpec.upto (s : _root_.Go.ChangeSpec) : _root_.Go.OpenSpec := { _root_.Go.OpenSpec.ofChange s with cond := some uptoSmall }

/-- 'cartouchelaw14.CertMakes', WHERE WHAT IT READS IS OF BULK AT MOST 1048576: true; the input reads as it did. -/
def certMakesUptoRow : OpenClaim := { program := "ytkkenfhlgpjmjaagreatdoor", sum := "54ec0a9f949821df3df340db2abf56e3f954f6b32d4f7670eac42b4a3e7144be", func := "cartouche/cartouchelaw14.CertMakes", spec := "certMakes", unfollowed := true, recurses := true, named := ["cartouche/blake.beginning", "cartouche/blake.orders", "cartouche/blake.mixings"], apart := false, laid := [("cartouche/blake.beginning", laid_cartouche_blake_beginning), ("cartouche/blake.orders", laid_cartouche_blake_orders), ("cartouche/blake.mixings", laid_cartouche_blake_mixings)], narrowed := true }
def CertMakesUptoSaid : Prop := certMakesUptoRow.holds Tryz.pinned (OpenSpec.upto certMakesSpec)

/-- 'cartouchelaw14.CertBytes', WHERE WHAT IT READS IS OF BULK AT MOST 1048576: true; the input reads as it did. -/
def certBytesUptoRow : OpenClaim := { program := "ytkkenfhlgpjmjaagreatdoor", sum := "54ec0a9f949821df3df340db2abf56e3f954f6b32d4f7670eac42b4a3e7144be", func := "cartouche/cartouchelaw14.CertBytes", spec := "certBytes", inPlace := ["internal/abi.NoEscape"], unfollowed := true, recurses := true, named := ["cartouche/blake.beginning", "cartouche/blake.orders", "cartouche/blake.mixings"], apart := false, laid := [("cartouche/blake.beginning", laid_cartouche_blake_beginning), ("cartouche/blake.orders", laid_cartouche_blake_orders), ("cartouche/blake.mixings", laid_cartouche_blake_mixings)], narrowed := true }
def CertBytesUptoSaid : Prop := certBytesUptoRow.holds Tryz.pinned (OpenSpec.upto certBytesSpec)

/-- 'cartouchelaw14.CertBack', WHERE WHAT IT READS IS OF BULK AT MOST 1048576: true; the input reads as it did. -/
def certBackUptoRow : OpenClaim := { program := "ytkkenfhlgpjmjaagreatdoor", sum := "54ec0a9f949821df3df340db2abf56e3f954f6b32d4f7670eac42b4a3e7144be", func := "cartouche/cartouchelaw14.CertBack", spec := "certBack", inPlace := ["internal/abi.NoEscape"], unfollowed := true, recurses := true, named := ["cartouche/blake.beginning", "cartouche/blake.orders", "cartouche/blake.mixings"], apart := false, laid := [("cartouche/blake.beginning", laid_cartouche_blake_beginning), ("cartouche/blake.orders", laid_cartouche_blake_orders), ("cartouche/blake.mixings", laid_cartouche_blake_mixings)], narrowed := true }
def CertBackUptoSaid : Prop := certBackUptoRow.holds Tryz.pinned (OpenSpec.upto certBackSpec)

/-- 'cartouchelaw14.CertApart', WHERE WHAT IT READS IS OF BULK AT MOST 1048576: true; the input reads as it did. -/
def certApartUptoRow : OpenClaim := { program := "ytkkenfhlgpjmjaagreatdoor", sum := "54ec0a9f949821df3df340db2abf56e3f954f6b32d4f7670eac42b4a3e7144be", func := "cartouche/cartouchelaw14.CertApart", spec := "certApart", inPlace := ["internal/abi.NoEscape"], unfollowed := true, recurses := true, named := ["cartouche/blake.beginning", "cartouche/blake.orders", "cartouche/blake.mixings"], apart := false, laid := [("cartouche/blake.beginning", laid_cartouche_blake_beginning), ("cartouche/blake.orders", laid_cartouche_blake_orders), ("cartouche/blake.mixings", laid_cartouche_blake_mixings)], narrowed := true }
def CertApartUptoSaid : Prop := certApartUptoRow.holds Tryz.pinned (OpenSpec.upto certApartSpec)

/-- 'cartouchelaw14.CertOwn', WHERE WHAT IT READS IS OF BULK AT MOST 1048576: true; the input reads as it did. -/
def certOwnUptoRow : OpenClaim := { program := "ytkkenfhlgpjmjaagreatdoor", sum := "54ec0a9f949821df3df340db2abf56e3f954f6b32d4f7670eac42b4a3e7144be", func := "cartouche/cartouchelaw14.CertOwn", spec := "certOwn", unfollowed := true, recurses := true, named := ["cartouche/blake.beginning", "cartouche/blake.orders", "cartouche/blake.mixings"], apart := false, laid := [("cartouche/blake.beginning", laid_cartouche_blake_beginning), ("cartouche/blake.orders", laid_cartouche_blake_orders), ("cartouche/blake.mixings", laid_cartouche_blake_mixings)], narrowed := true }
def CertOwnUptoSaid : Prop := certOwnUptoRow.holds Tryz.pinned (OpenSpec.upto certOwnSpec)

/-- 'cartouchelaw14.CertNeeds', WHERE WHAT IT READS IS OF BULK AT MOST 1048576: true; the input reads as it did. -/
def certNeedsUptoRow : OpenClaim := { program := "ytkkenfhlgpjmjaagreatdoor", sum := "54ec0a9f949821df3df340db2abf56e3f954f6b32d4f7670eac42b4a3e7144be", func := "cartouche/cartouchelaw14.CertNeeds", spec := "certNeeds", unfollowed := true, recurses := true, named := ["cartouche/blake.beginning", "cartouche/blake.orders", "cartouche/blake.mixings"], apart := false, laid := [("cartouche/blake.beginning", laid_cartouche_blake_beginning), ("cartouche/blake.orders", laid_cartouche_blake_orders), ("cartouche/blake.mixings", laid_cartouche_blake_mixings)], narrowed := true }
def CertNeedsUptoSaid : Prop := certNeedsUptoRow.holds Tryz.pinned (OpenSpec.upto certNeedsSpec)

/-- 'cartouchelaw14.CertEdges', WHERE WHAT IT READS IS OF BULK AT MOST 1048576: true; the input reads as it did. -/
def certEdgesUptoRow : OpenClaim := { program := "ytkkenfhlgpjmjaagreatdoor", sum := "54ec0a9f949821df3df340db2abf56e3f954f6b32d4f7670eac42b4a3e7144be", func := "cartouche/cartouchelaw14.CertEdges", spec := "certEdges", unfollowed := true, recurses := true, named := ["cartouche/blake.beginning", "cartouche/blake.orders", "cartouche/blake.mixings"], apart := false, laid := [("cartouche/blake.beginning", laid_cartouche_blake_beginning), ("cartouche/blake.orders", laid_cartouche_blake_orders), ("cartouche/blake.mixings", laid_cartouche_blake_mixings)], narrowed := true }
def CertEdgesUptoSaid : Prop := certEdgesUptoRow.holds Tryz.pinned (OpenSpec.upto certEdgesSpec)

end Rows
end Go.Proofs.YtkkenfhlgpjmjaaGreatDoor
