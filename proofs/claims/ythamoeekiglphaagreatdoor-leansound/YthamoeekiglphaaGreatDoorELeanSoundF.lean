/-
  What the kernel finds of the program at LeanSound's function: each fact for itself.
-/
import Derived.Test.YthamoeekiglphaaGreatDoorRows
import Derived.JoinedOf
namespace Go.Proofs.YthamoeekiglphaaGreatDoor
set_option maxRecDepth 100000
open Go
set_option maxRecDepth 100000
theorem leanSound_ka:Tryz.prog.inPlace 4=Rows.leanSoundRow.inPlace:=by kernel_rfl
theorem leanSound_kb:Tryz.prog.unfollowed 4=Rows.leanSoundRow.unfollowed:=by kernel_rfl
theorem leanSound_kc:Tryz.prog.recurses 4=Rows.leanSoundRow.recurses:=by kernel_rfl
theorem leanSound_kd:Tryz.prog.varsNamed 4=Rows.leanSoundRow.named:=by kernel_rfl
theorem leanSound_closed:joinedFacts Tryz.prog 4 Tryz.f4 Rows.leanSoundSpec Rows.leanSoundRow=true:=by
 unfold joinedFacts;rw [leanSound_ka,leanSound_kb,leanSound_kc,leanSound_kd]
 kernel_rfl
end Go.Proofs.YthamoeekiglphaaGreatDoor
