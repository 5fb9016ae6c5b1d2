/-
  What the kernel finds of the program at CertEdges's function: each fact for itself.
-/
import Derived.Test.YtkkenfhlgpjmjaaGreatDoorRows
import Derived.JoinedOf
namespace Go.Proofs.YtkkenfhlgpjmjaaGreatDoor
set_option maxRecDepth 100000
open Go
set_option maxRecDepth 100000
theorem certEdges_ka:Tryz.prog.inPlace 9=Rows.certEdgesRow.inPlace:=by kernel_rfl
theorem certEdges_kb:Tryz.prog.unfollowed 9=Rows.certEdgesRow.unfollowed:=by kernel_rfl
theorem certEdges_kc:Tryz.prog.recurses 9=Rows.certEdgesRow.recurses:=by kernel_rfl
theorem certEdges_kd:Tryz.prog.varsNamed 9=Rows.certEdgesRow.named:=by kernel_rfl
theorem certEdges_closed:joinedFacts Tryz.prog 9 Tryz.f9 Rows.certEdgesSpec Rows.certEdgesRow=true:=by
 unfold joinedFacts
 rw [certEdges_ka,certEdges_kb,certEdges_kc,certEdges_kd]
 kernel_rfl
end Go.Proofs.YtkkenfhlgpjmjaaGreatDoor
