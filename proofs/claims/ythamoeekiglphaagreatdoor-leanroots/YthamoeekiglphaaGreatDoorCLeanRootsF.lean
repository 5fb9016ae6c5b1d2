/-
  What the kernel finds of the program at LeanRoots's function: each fact for itself.
-/
import Derived.Test.YthamoeekiglphaaGreatDoorRows
import Derived.JoinedOf
namespace Go.Proofs.YthamoeekiglphaaGreatDoor
set_option maxRecDepth 100000
open Go
set_option maxRecDepth 100000
theorem leanRoots_ka:Tryz.prog.inPlace 9=Rows.leanRootsRow.inPlace:=by kernel_rfl
theorem leanRoots_kb:Tryz.prog.unfollowed 9=Rows.leanRootsRow.unfollowed:=by kernel_rfl
theorem leanRoots_kc:Tryz.prog.recurses 9=Rows.leanRootsRow.recurses:=by kernel_rfl
theorem leanRoots_kd:Tryz.prog.varsNamed 9=Rows.leanRootsRow.named:=by kernel_rfl
theorem leanRoots_closed:joinedFacts Tryz.prog 9 Tryz.f9 Rows.leanRootsSpec Rows.leanRootsRow=true:=by
 unfold joinedFacts
 rw [leanRoots_ka,leanRoots_kb,leanRoots_kc,leanRoots_kd]
 kernel_rfl
end Go.Proofs.YthamoeekiglphaaGreatDoor
