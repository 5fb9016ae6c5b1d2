/-
  Numbers and steps among the arguments, opened: slices of them. A verdict among the arguments, opened.
-/
import Derived.Test.YtiihegldhnlleaaGreatCL1a
namespace Go.Proofs.YtiihegldhnlleaaGreat
set_option maxRecDepth 100000
open Go.ChangeShapes Go.WideShapes Go.ChangeAt Go.RowKit
set_option linter.unusedVariables false
theorem okS_wf {n:Int} (h:(Lit.int .i64 n).wf=true):okS n:=i64_wf h
theorem int_elem {H:Type} {enc:TypeId × Value→H} {W:World} (n:Nat) (cs':List Value) (d':DataW H) (p':List MemPlace) (hl:cs'.length=1) (h:DataW.trod enc Tryz.prog W 0 (fun _=>true) true n 3 cs'=some (d',p')):∃ x,cs'=intV x∧okS x:=by
 obtain ⟨n0,e0,hx,w0⟩:=DataW.trod_int Tryz.underlying3 h
 exact ⟨n0,by rw [e0];rfl,okS_wf w0⟩
theorem ed_elem11 {H:Type} {enc:TypeId × Value→H} {W:World} (n:Nat) (cs':List Value) (d':DataW H) (p':List MemPlace) (hl:cs'.length=5) (h:DataW.trod enc Tryz.prog W 0 (fun _=>true) true n 54 cs'=some (d',p')):∃ x:Ed,cs'=edV x∧True:=by
 have hu:=Tryz.underlying54
 obtain ⟨xs,k,_,hx,hcl,hlen,hel⟩:=DataW.trod_struct hu h
 have hlen':xs.length=5:=hlen
 match xs,hlen',cs',hl with
 | [y0,y1,y2,y3,y4],_,[c0,c1,c2,c3,c4],_ =>
   have k3:Tryz.prog.cellsOf 3=1:=by kernel_rfl
   have g0:=hel 0 _ rfl
   have g1:=hel 1 _ rfl
   have g2:=hel 2 _ rfl
   have g3:=hel 3 _ rfl
   have g4:=hel 4 _ rfl
   simp [k3] at g0 g1 g2 g3 g4
   obtain ⟨n0,e0,rfl,w0⟩:=DataW.trod_int Tryz.underlying3 g0
   obtain ⟨n1,e1,rfl,w1⟩:=DataW.trod_int Tryz.underlying3 g1
   obtain ⟨n2,e2,rfl,w2⟩:=DataW.trod_int Tryz.underlying3 g2
   obtain ⟨n3,e3,rfl,w3⟩:=DataW.trod_int Tryz.underlying3 g3
   obtain ⟨n4,e4,rfl,w4⟩:=DataW.trod_int Tryz.underlying3 g4
   simp at e0 e1 e2 e3 e4
   subst e0 e1 e2 e3 e4
   exact ⟨(n0,n1,n2,n3,n4),rfl,trivial⟩
theorem ed_cells {H:Type} {enc:TypeId × Value→H} {W:World} {m:Nat} {c:Value} {d:DataW H} {p:List MemPlace}
 (hf:DataW.trod enc Tryz.prog W 0 (fun _=>true) true m 26 [c]=some (d,p)) (hw:(DataW.weights Tryz.prog 26 d).all (·≤ reachBytes)=true):∃ L:List Ed,IsEds W c L∧(∀ x∈L,True)∧L.length*40≤reachBytes :=
 rec_cells (sz:=5) (rec:=edV) (fun _=>True) 40 Tryz.underlying26 (by kernel_rfl) (by omega) (by kernel_rfl) (by omega) (fun n cs' d' p' hl h hw'=>ed_elem11 n cs' d' p' hl h) hf hw
theorem int_cells {H:Type} {enc:TypeId × Value→H} {W:World} {m:Nat} {c:Value} {d:DataW H} {p:List MemPlace}
 (hf:DataW.trod enc Tryz.prog W 0 (fun _=>true) true m 23 [c]=some (d,p)) (hw:(DataW.weights Tryz.prog 23 d).all (·≤ reachBytes)=true):∃ L:List Int,IsInts W c L∧(∀ x∈L,okS x)∧L.length*8≤reachBytes :=
 rec_cells (sz:=1) (rec:=intV) okS 8 Tryz.underlying23 (by kernel_rfl) (by omega) (by kernel_rfl) (by omega) (fun n cs' d' p' hl h hw'=>int_elem n cs' d' p' hl h) hf hw
theorem bad_elem {H:Type} {enc:TypeId × Value→H} {W:World} (n:Nat) (cs':List Value) (d':DataW H) (p':List MemPlace) (hl:cs'.length=3) (h:DataW.trod enc Tryz.prog W 0 (fun _=>true) true n 25 cs'=some (d',p')):∃ x:Bd,cs'=badV x:=by
 have hu:=Tryz.underlying25
 obtain ⟨xs,k,_,hx,hcl,hlen,hel⟩:=DataW.trod_struct hu h
 have hlen':xs.length=3:=hlen
 match xs,hlen',cs',hl with
 | [y0,y1,y2],_,[c0,c1,c2],_ =>
   have k3:Tryz.prog.cellsOf 3=1:=by kernel_rfl
   have g0:=hel 0 _ rfl
   have g1:=hel 1 _ rfl
   have g2:=hel 2 _ rfl
   simp [k3] at g0 g1 g2
   obtain ⟨n0,e0,rfl,w0⟩:=DataW.trod_int Tryz.underlying3 g0
   obtain ⟨n1,e1,rfl,w1⟩:=DataW.trod_int Tryz.underlying3 g1
   obtain ⟨n2,e2,rfl,w2⟩:=DataW.trod_int Tryz.underlying3 g2
   simp at e0 e1 e2
   subst e0 e1 e2
   exact ⟨(n0,n1,n2),rfl⟩
theorem vd_elem {H:Type} {enc:TypeId × Value→H} {W:World} (n:Nat) (cs':List Value) (d':DataW H) (p':List MemPlace) (hl:cs'.length=7) (h:DataW.trod enc Tryz.prog W 0 (fun _=>true) true n 28 cs'=some (d',p')) (hw:(DataW.weights Tryz.prog 28 d').all (·≤ reachBytes)=true) :
 ∃ (x:Vd) (vo vr:Value),cs'=(vdC x vo vr).toList∧IsInts W vo x.2.2.1∧IsEds W vr x.2.2.2.2:=by
 have hu:=Tryz.underlying28
 obtain ⟨xs,k,_,hx,hcl,hlen,hel⟩:=DataW.trod_struct hu h
 have hlen':xs.length=5:=hlen
 match xs,hlen',cs',hl with
 | [y0,y1,y2,y3,y4],_,[c0,c1,c2,c3,c4,c5,c6],_ =>
   have k3:Tryz.prog.cellsOf 3=1:=by kernel_rfl
   have k4:Tryz.prog.cellsOf 4=1:=by kernel_rfl
   have k5:Tryz.prog.cellsOf 23=1:=by kernel_rfl
   have k6:Tryz.prog.cellsOf 25=3:=by kernel_rfl
   have k7:Tryz.prog.cellsOf 26=1:=by kernel_rfl
   have g0:=hel 0 _ rfl
   have g1:=hel 1 _ rfl
   have g2:=hel 2 _ rfl
   have g3:=hel 3 _ rfl
   have g4:=hel 4 _ rfl
   simp [k3,k4,k5,k6,k7] at g0 g1 g2 g3 g4
   have hd:=congrArg Prod.fst hx
   simp at hd
   subst hd
   simp only [DataW.weights,hu,List.map_cons,List.map_nil] at hw
   simp only [DataW.weightsEach,List.append_nil,List.all_append,Bool.and_eq_true] at hw
   obtain ⟨n0,e0,r0,w0⟩:=DataW.trod_int Tryz.underlying3 g0
   obtain ⟨b1,e1,r1⟩:=DataW.trod_bool Tryz.underlying4 g1
   obtain ⟨o,ho,_,_⟩:=int_cells (d:=y2.1) (p:=y2.2) g2 hw.2.2.1
   obtain ⟨⟨b,bq,br⟩,hb⟩:=bad_elem _ _ y3.1 y3.2 rfl g3
   obtain ⟨E,hE,_,_⟩:=ed_cells (d:=y4.1) (p:=y4.2) g4 hw.2.2.2.2
   simp at e0 e1
   simp [badV] at hb
   obtain ⟨rfl,rfl,rfl⟩:=hb
   subst e0 e1
   exact ⟨(n0,b1,o,(b,bq,br),E),c2,c6,rfl,ho,hE⟩
theorem vd_val {H:Type} {enc:TypeId × Value→H} {W:World} {r:Reach} {b0:Nat} {v:Value} {d:DataW H} {p:List MemPlace} (hv:Value.okWide Tryz.prog W r b0 28 v)
 (h:DataW.Trod enc Tryz.prog W 0 (fun _=>true) true 28 v d p) (hw:(DataW.weights Tryz.prog 28 d).all (·≤ reachBytes)=true):∃ (x:Vd) (vo vr:Value),v=.agg (vdC x vo vr)∧IsInts W vo x.2.2.1∧IsEds W vr x.2.2.2.2:=by
 obtain ⟨cs,rfl,hsz⟩:=okWide_struct Tryz.underlying28 hv
 obtain ⟨fuel,hf⟩:=h
 have hc:Tryz.prog.cellsOf 28=7:=by kernel_rfl
 obtain ⟨x,vo,vr,hx,h1,h2⟩:=vd_elem fuel cs.toList d p (by rw [Array.length_toList,hsz,hc]) (by simpa [Value.cells] using hf) hw
 refine ⟨x,vo,vr,?_,h1,h2⟩
 have:cs=vdC x vo vr:=Array.toList_inj.1 hx
 rw [this]
end Go.Proofs.YtiihegldhnlleaaGreat
