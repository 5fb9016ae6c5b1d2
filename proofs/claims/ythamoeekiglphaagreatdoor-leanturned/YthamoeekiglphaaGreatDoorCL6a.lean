/-
  The walk of LeanLess.
-/
import Derived.Test.YthamoeekiglphaaGreatDoorCShown15
namespace Go.Proofs.YthamoeekiglphaaGreatDoor
set_option maxRecDepth 100000
open Go.RowKit Go.Maps
set_option linter.unusedVariables false
attribute [local go_sem] ba_size
theorem pfs_one15 {w:World} {L':List PVt} {L:List Pf} (h:PfOf w L' L):∀ u∈recV pfV L',u.oneCell'=true:=by
 intro u hu
 obtain ⟨x,hx,hu⟩:=List.mem_flatMap.1 hu
 obtain ⟨i,hi,rfl⟩:=List.getElem_of_mem hx
 have hi2:i < L.length:=by rw [← h.1];exact hi
 obtain ⟨a,n,c,hv,_⟩:=(h.2 i _ _ (List.getElem?_eq_getElem hi) (List.getElem?_eq_getElem hi2)).path
 simp only [pfV,List.mem_cons,List.not_mem_nil,or_false] at hu
 rcases hu with rfl | rfl | rfl | rfl | rfl | rfl
 ·rfl
 ·rfl
 ·rfl
 ·rfl
 ·rfl
 ·rw [hv];rfl
structure KS (w V:World) (B5 B6:Nat) (cb ce:Array Value) (vk:Value) (M:List Pf):Prop where
 bel:Below w.heap.size w V
 b5:SBox V B5 24 cb
 b6:SBox V B6 32 ce
 row:∃ M':List PVt,V.ownsRow w.heap.size 55 6 vk M'.length (recV pfV M')∧PfOf w M' M
end Go.Proofs.YthamoeekiglphaaGreatDoor
