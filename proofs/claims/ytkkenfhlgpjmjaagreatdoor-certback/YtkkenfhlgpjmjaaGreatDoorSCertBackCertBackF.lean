/-
  What the kernel finds of the program at CertBack's function: each fact for itself.
-/
import Derived.Test.YtkkenfhlgpjmjaaGreatDoorRows
import Derived.JoinedOf
namespace Go.Proofs.YtkkenfhlgpjmjaaGreatDoor
set_option maxRecDepth 100000
open Go
set_option maxRecDepth 100000
theorem certBack_ka:Tryz.prog.inPlace 5=Rows.certBackRow.inPlace:=by kernel_rfl
theorem certBack_kb:Tryz.prog.unfollowed 5=Rows.certBackRow.unfollowed:=by kernel_rfl
theorem certBack_kc:Tryz.prog.recurses 5=Rows.certBackRow.recurses:=by kernel_rfl
theorem certBack_kd:Tryz.prog.varsNamed 5=Rows.certBackRow.named:=by kernel_rfl
theorem certBack_closed:joinedFacts Tryz.prog 5 Tryz.f5 Rows.certBackSpec Rows.certBackRow=true:=by
 unfold joinedFacts
 rw [certBack_ka,certBack_kb,certBack_kc,certBack_kd]
 kernel_rfl
end Go.Proofs.YtkkenfhlgpjmjaaGreatDoor
