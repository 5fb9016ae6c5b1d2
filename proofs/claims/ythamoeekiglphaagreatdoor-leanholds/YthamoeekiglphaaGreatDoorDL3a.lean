/-
  Package lean keeps its word.
-/
import Derived.Test.YthamoeekiglphaaGreatDoorDP15Chk
namespace Go.Proofs.YthamoeekiglphaaGreatDoor
set_option maxRecDepth 100000
open Go.RowKit
set_option linter.unusedVariables false
theorem p15c:P15C where
 proved:=fun c vo vr vp root w hG hC=>by
  obtain ⟨hO,hR,hP⟩:=hC
  obtain ⟨oa,oc,rfl,_⟩:=hO.some_at
  obtain ⟨ra,rc,rfl,_⟩:=hR.some_at
  obtain ⟨pa,pc,rfl,_⟩:=hP.len
  obtain ⟨tn,sq,pv,rt,ct,⟨lv,ac,o,⟨k,i,j⟩,r⟩,p⟩:=c
  exact pproved15 tn sq pv rt ct lv k i j ac oa oc o ra rc r pa pc p root w hG hO hR hP
 check:=fun c vo vr vp root w hG hC=>by
  obtain ⟨hO,hR,hP⟩:=hC
  obtain ⟨oa,oc,rfl,_⟩:=hO.some_at
  obtain ⟨ra,rc,rfl,_⟩:=hR.some_at
  obtain ⟨pa,pc,rfl,_⟩:=hP.len
  obtain ⟨tn,sq,pv,rt,ct,⟨lv,ac,o,⟨k,i,j⟩,r⟩,p⟩:=c
  exact pcheck15 tn sq pv rt ct lv k i j ac oa oc o ra rc r pa pc p root w hG hO hR hP
 bad:=fun l v b w hP=>pbad15_any l v w hP b.1 b.2.1 b.2.2
 edge:=fun l v e w hP=>pedge15_any l v w hP e.1 e.2.1 e.2.2.1 e.2.2.2.1 e.2.2.2.2
end Go.Proofs.YthamoeekiglphaaGreatDoor
