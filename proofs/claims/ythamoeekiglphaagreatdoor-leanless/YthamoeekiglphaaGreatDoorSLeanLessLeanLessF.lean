/-
  What the kernel finds of the program at LeanLess's function: each fact for itself.
-/
import Derived.Test.YthamoeekiglphaaGreatDoorRows
import Derived.JoinedOf
namespace Go.Proofs.YthamoeekiglphaaGreatDoor
set_option maxRecDepth 100000
open Go
set_option maxRecDepth 100000
theorem leanLess_ka:Tryz.prog.inPlace 7=Rows.leanLessRow.inPlace:=by kernel_rfl
theorem leanLess_kb:Tryz.prog.unfollowed 7=Rows.leanLessRow.unfollowed:=by kernel_rfl
theorem leanLess_kc:Tryz.prog.recurses 7=Rows.leanLessRow.recurses:=by kernel_rfl
theorem leanLess_kd:Tryz.prog.varsNamed 7=Rows.leanLessRow.named:=by kernel_rfl
theorem leanLess_closed:joinedFacts Tryz.prog 7 Tryz.f7 Rows.leanLessSpec Rows.leanLessRow=true:=by
 unfold joinedFacts
 rw [leanLess_ka,leanLess_kb,leanLess_kc,leanLess_kd]
 kernel_rfl
end Go.Proofs.YthamoeekiglphaaGreatDoor
