/-
  What the kernel finds of the program at LeanHolds's function: each fact for itself.
-/
import Derived.Test.YthamoeekiglphaaGreatDoorRows
import Derived.JoinedOf
namespace Go.Proofs.YthamoeekiglphaaGreatDoor
set_option maxRecDepth 100000
open Go
set_option maxRecDepth 100000
theorem leanHolds_ka:Tryz.prog.inPlace 8=Rows.leanHoldsRow.inPlace:=by kernel_rfl
theorem leanHolds_kb:Tryz.prog.unfollowed 8=Rows.leanHoldsRow.unfollowed:=by kernel_rfl
theorem leanHolds_kc:Tryz.prog.recurses 8=Rows.leanHoldsRow.recurses:=by kernel_rfl
theorem leanHolds_kd:Tryz.prog.varsNamed 8=Rows.leanHoldsRow.named:=by kernel_rfl
theorem leanHolds_closed:joinedFacts Tryz.prog 8 Tryz.f8 Rows.leanHoldsSpec Rows.leanHoldsRow=true:=by
 unfold joinedFacts
 rw [leanHolds_ka,leanHolds_kb,leanHolds_kc,leanHolds_kd]
 kernel_rfl
end Go.Proofs.YthamoeekiglphaaGreatDoor
