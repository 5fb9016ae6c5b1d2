/-
  What the kernel finds of the program at LeanTurned's function: each fact for itself.
-/
import Derived.Test.YthamoeekiglphaaGreatDoorRows
import Derived.JoinedOf
namespace Go.Proofs.YthamoeekiglphaaGreatDoor
set_option maxRecDepth 100000
open Go
set_option maxRecDepth 100000
theorem leanTurned_ka:Tryz.prog.inPlace 6=Rows.leanTurnedRow.inPlace:=by kernel_rfl
theorem leanTurned_kb:Tryz.prog.unfollowed 6=Rows.leanTurnedRow.unfollowed:=by kernel_rfl
theorem leanTurned_kc:Tryz.prog.recurses 6=Rows.leanTurnedRow.recurses:=by kernel_rfl
theorem leanTurned_kd:Tryz.prog.varsNamed 6=Rows.leanTurnedRow.named:=by kernel_rfl
theorem leanTurned_closed:joinedFacts Tryz.prog 6 Tryz.f6 Rows.leanTurnedSpec Rows.leanTurnedRow=true:=by
 unfold joinedFacts
 rw [leanTurned_ka,leanTurned_kb,leanTurned_kc,leanTurned_kd]
 kernel_rfl
end Go.Proofs.YthamoeekiglphaaGreatDoor
