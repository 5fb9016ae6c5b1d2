/-
  What the kernel finds of the program at CertNeeds's function: each fact for itself.
-/
import Derived.Test.YtkkenfhlgpjmjaaGreatDoorRows
import Derived.JoinedOf
namespace Go.Proofs.YtkkenfhlgpjmjaaGreatDoor
set_option maxRecDepth 100000
open Go
set_option maxRecDepth 100000
theorem certNeeds_ka:Tryz.prog.inPlace 8=Rows.certNeedsRow.inPlace:=by kernel_rfl
theorem certNeeds_kb:Tryz.prog.unfollowed 8=Rows.certNeedsRow.unfollowed:=by kernel_rfl
theorem certNeeds_kc:Tryz.prog.recurses 8=Rows.certNeedsRow.recurses:=by kernel_rfl
theorem certNeeds_kd:Tryz.prog.varsNamed 8=Rows.certNeedsRow.named:=by kernel_rfl
theorem certNeeds_closed:joinedFacts Tryz.prog 8 Tryz.f8 Rows.certNeedsSpec Rows.certNeedsRow=true:=by
 unfold joinedFacts
 rw [certNeeds_ka,certNeeds_kb,certNeeds_kc,certNeeds_kd]
 kernel_rfl
end Go.Proofs.YtkkenfhlgpjmjaaGreatDoor
