/-
  What the kernel finds of the program at LeanTells's function: each fact for itself.
-/
import Derived.Test.YthamoeekiglphaaGreatDoorRows
import Derived.JoinedOf
namespace Go.Proofs.YthamoeekiglphaaGreatDoor
set_option maxRecDepth 100000
open Go
set_option maxRecDepth 100000
theorem leanTells_ka:Tryz.prog.inPlace 3=Rows.leanTellsRow.inPlace:=by kernel_rfl
theorem leanTells_kb:Tryz.prog.unfollowed 3=Rows.leanTellsRow.unfollowed:=by kernel_rfl
theorem leanTells_kc:Tryz.prog.recurses 3=Rows.leanTellsRow.recurses:=by kernel_rfl
theorem leanTells_kd:Tryz.prog.varsNamed 3=Rows.leanTellsRow.named:=by kernel_rfl
theorem leanTells_closed:joinedFacts Tryz.prog 3 Tryz.f3 Rows.leanTellsSpec Rows.leanTellsRow=true:=by
 unfold joinedFacts
 rw [leanTells_ka,leanTells_kb,leanTells_kc,leanTells_kd]
 kernel_rfl
end Go.Proofs.YthamoeekiglphaaGreatDoor
