/-
  What the laws of stage 15 are asked of, opened.
-/
import Derived.Test.YthamoeekiglphaaGreatDoorCL0b
namespace Go.Proofs.YthamoeekiglphaaGreatDoor
set_option maxRecDepth 100000
open Go.ChangeShapes Go.WideShapes Go.ChangeAt Go.RowKit
set_option linter.unusedVariables false
theorem less_elem {H:Type} {enc:TypeId × Value→H} {W:World} (n:Nat) (cs':List Value) (d':DataW H) (p':List MemPlace) (hl:cs'.length=10) (h:DataW.trod enc Tryz.prog W 0 (fun _=>true) true n 72 cs'=some (d',p')) (hw:(DataW.weights Tryz.prog 72 d').all (·≤ reachBytes)=true) :
 ∃ (l m:List Pf) (vl vm:Value) (b0 b1 b2 e0 e1 e2 e3 e4:Int),cs'=[vl,vm,.int .i64 b0,.int .i64 b1,.int .i64 b2,.int .i64 e0,.int .i64 e1,.int .i64 e2,.int .i64 e3,.int .i64 e4]∧IsPfs W vl l∧IsPfs W vm m:=by
 have hu:=Tryz.underlying72
 obtain ⟨xs,k,_,hx,hcl,hlen,hel⟩:=DataW.trod_struct hu h
 have hlen':xs.length=4:=hlen
 match xs,hlen',cs',hl with
 | [y0,y1,y2,y3],_,[c0,c1,c2,c3,c4,c5,c6,c7,c8,c9],_ =>
   have kP:Tryz.prog.cellsOf 28=1:=by kernel_rfl
   have kB:Tryz.prog.cellsOf 24=3:=by kernel_rfl
   have kE:Tryz.prog.cellsOf 32=5:=by kernel_rfl
   have g0:=hel 0 _ rfl
   have g1:=hel 1 _ rfl
   have g2:=hel 2 _ rfl
   have g3:=hel 3 _ rfl
   simp [kP,kB,kE] at g0 g1 g2 g3
   have hd:=congrArg Prod.fst hx
   simp at hd
   subst hd
   simp only [DataW.weights,hu,List.map_cons,List.map_nil] at hw
   simp only [DataW.weightsEach,List.append_nil,List.all_append,Bool.and_eq_true] at hw
   obtain ⟨P,hP⟩:=pf_cells (d:=y0.1) (p:=y0.2) g0 hw.1
   obtain ⟨M,hM⟩:=pf_cells (d:=y1.1) (p:=y1.2) g1 hw.2.1
   obtain ⟨⟨b,bq,br⟩,hb,gb⟩:=bad_elem13 _ _ y2.1 y2.2 rfl g2
   obtain ⟨⟨x0,x1,x2,x3,x4⟩,he,ge⟩:=ed_elem _ _ y3.1 y3.2 rfl g3
   simp [badV] at hb
   simp [edV] at he
   obtain ⟨rfl,rfl,rfl⟩:=hb
   obtain ⟨rfl,rfl,rfl,rfl,rfl⟩:=he
   exact ⟨P,M,c0,c1,b,bq,br,x0,x1,x2,x3,x4,rfl,hP,hM⟩
theorem less_val {H:Type} {enc:TypeId × Value→H} {W:World} {r:Reach} {b0:Nat} {v:Value} {d:DataW H} {p:List MemPlace} (hv:Value.okWide Tryz.prog W r b0 72 v)
 (h:DataW.Trod enc Tryz.prog W 0 (fun _=>true) true 72 v d p) (hw:(DataW.weights Tryz.prog 72 d).all (·≤ reachBytes)=true) :
 ∃ (l m:List Pf) (vl vm:Value) (b0 b1 b2 e0 e1 e2 e3 e4:Int),v=.agg #[vl,vm,.int .i64 b0,.int .i64 b1,.int .i64 b2,.int .i64 e0,.int .i64 e1,.int .i64 e2,.int .i64 e3,.int .i64 e4]∧IsPfs W vl l∧IsPfs W vm m:=by
 obtain ⟨cs,rfl,hsz⟩:=okWide_struct Tryz.underlying72 hv
 obtain ⟨fuel,hf⟩:=h
 have hc:Tryz.prog.cellsOf 72=10:=by kernel_rfl
 obtain ⟨l,m,vl,vm,b0,b1,b2,e0,e1,e2,e3,e4,hx,h1,h2⟩:=less_elem fuel cs.toList d p (by rw [Array.length_toList,hsz,hc]) (by simpa [Value.cells] using hf) hw
 refine ⟨l,m,vl,vm,b0,b1,b2,e0,e1,e2,e3,e4,?_,h1,h2⟩
 have:cs=#[vl,vm,.int .i64 b0,.int .i64 b1,.int .i64 b2,.int .i64 e0,.int .i64 e1,.int .i64 e2,.int .i64 e3,.int .i64 e4]:=Array.toList_inj.1 hx
 rw [this]
end Go.Proofs.YthamoeekiglphaaGreatDoor
