/-
  What the kernel finds of the program at CertApart's function: each fact for itself.
-/
import Derived.Test.YtkkenfhlgpjmjaaGreatDoorRows
import Derived.JoinedOf
namespace Go.Proofs.YtkkenfhlgpjmjaaGreatDoor
set_option maxRecDepth 100000
open Go
set_option maxRecDepth 100000
theorem certApart_ka:Tryz.prog.inPlace 6=Rows.certApartRow.inPlace:=by kernel_rfl
theorem certApart_kb:Tryz.prog.unfollowed 6=Rows.certApartRow.unfollowed:=by kernel_rfl
theorem certApart_kc:Tryz.prog.recurses 6=Rows.certApartRow.recurses:=by kernel_rfl
theorem certApart_kd:Tryz.prog.varsNamed 6=Rows.certApartRow.named:=by kernel_rfl
theorem certApart_closed:joinedFacts Tryz.prog 6 Tryz.f6 Rows.certApartSpec Rows.certApartRow=true:=by
 unfold joinedFacts
 rw [certApart_ka,certApart_kb,certApart_kc,certApart_kd]
 kernel_rfl
end Go.Proofs.YtkkenfhlgpjmjaaGreatDoor
