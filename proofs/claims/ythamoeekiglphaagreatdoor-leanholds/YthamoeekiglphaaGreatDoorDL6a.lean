/-
  The walk of LeanLess.
-/
import Derived.Test.YthamoeekiglphaaGreatDoorDShown15
namespace Go.Proofs.YthamoeekiglphaaGreatDoor
set_option maxRecDepth 100000
open Go.RowKit Go.Maps
set_option linter.unusedVariables false
attribute [local go_sem] ba_size
structure KS (w V:World) (B5 B6:Nat) (cb ce:Array Value) (vk:Value) (M:List Pf):Prop where
 bel:Below w.heap.size w V
 b5:SBox V B5 24 cb
 b6:SBox V B6 32 ce
 row:∃ M':List PVt,V.ownsRow w.heap.size 55 6 vk M'.length (recV pfV M')∧PfOf w M' M
end Go.Proofs.YthamoeekiglphaaGreatDoor
