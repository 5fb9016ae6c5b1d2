/-
  The package-level tables of blake as the rows list them: what the walks want of them.
-/
import Derived.Test.YthamoeekiglphaaGreatDoorEL0a
import Derived.Test.YthamoeekiglphaaGreatDoorRows
import Derived.LaidMore
import Derived.OpenShut
import Derived.Stop.Joined
namespace Go.Proofs.YthamoeekiglphaaGreatDoor
set_option maxRecDepth 100000
open Go.ChangeShapes Go.WideShapes Go.ChangeAt Go.RowKit
set_option linter.unusedVariables false
def laid3:List (String × DataW Unit):=[("cartouche/blake.beginning",Rows.laid_cartouche_blake_beginning),("cartouche/blake.orders",Rows.laid_cartouche_blake_orders),("cartouche/blake.mixings",Rows.laid_cartouche_blake_mixings)]
theorem ints_of {H:Type} {enc:TypeId × Value→H} {P:Program} {w:World} {base:Nat} {spare:Nat→Bool} {held:Bool} {fuel:Nat} {t e:TypeId} {n:Nat} {k:IntKind} {cs:List Value} {d:DataW H} {p:List MemPlace}
 (ht:P.underlying t=some (.array n e)) (he:P.underlying e=some (.int k)) (hc:P.cellsOf e=1) (hct:P.cellsOf t=n) (h:DataW.trod enc P w base spare held fuel t cs=some (d,p)) (vs:List Int) (hd:d=.agg (vs.map fun v=>.lit (.int k v))) :
 cs=vs.map (Value.int k):=by
 obtain ⟨xs,m,rfl,hx,hlen,hn,hel⟩:=DataW.trod_array ht h;subst hd;simp only [Prod.mk.injEq,DataW.agg.injEq] at hx
 have hvn:vs.length=n:=by
  have:=congrArg List.length hx.1;simp at this;omega
 apply List.ext_getElem?;intro i
 by_cases hi:i < n
 ·have h1:=hel i hi
  rw [hc,Nat.mul_one,List.getElem?_eq_getElem (by omega)] at h1;obtain ⟨q,e1,e2,_⟩:=DataW.trod_int he h1;have h2:(xs.map (·.1))[i]?=(vs.map fun v=>(DataW.lit (.int k v):DataW H))[i]?:=by rw [hx.1]
  rw [List.getElem?_map,List.getElem?_map,List.getElem?_eq_getElem (show i < xs.length by omega),List.getElem?_eq_getElem (show i < vs.length by omega),e2] at h2;simp only [Option.map_some,Option.some.injEq,DataW.lit.injEq,Lit.int.injEq,true_and] at h2;rw [List.getElem?_map,List.getElem?_eq_getElem (show i < vs.length by omega),← h2]
  have h3:(cs.drop i).take 1=[cs[i]'(by omega)]:=by
   rw [List.drop_eq_getElem_cons (by omega)];rfl
  rw [h3] at e1;rw [List.getElem?_eq_getElem (by omega)];simpa using e1
 ·rw [List.getElem?_eq_none (by omega),List.getElem?_eq_none (by simp;omega)]
theorem rows_of {H:Type} {enc:TypeId × Value→H} {P:Program} {w:World} {base:Nat} {spare:Nat→Bool} {held:Bool} {fuel:Nat} {t u e:TypeId} {n m:Nat} {k:IntKind} {cs:List Value} {d:DataW H} {p:List MemPlace} (hm:0 < m)
 (ht:P.underlying t=some (.array n u)) (hu:P.underlying u=some (.array m e)) (he:P.underlying e=some (.int k)) (hc:P.cellsOf e=1) (hcu:P.cellsOf u=m) (hct:P.cellsOf t=n*m) (h:DataW.trod enc P w base spare held fuel t cs=some (d,p))
 (vs:List (List Int)) (hd:d=.agg (vs.map fun l=>.agg (l.map fun v=>.lit (.int k v)))) (i j:Nat) (hi:i < n) (hj:j < m):cs[i*m+j]?=((vs.getD i []).map (Value.int k))[j]?:=by
 obtain ⟨xs,f,rfl,hx,hlen,hn,hel⟩:=DataW.trod_array ht h;subst hd;simp only [Prod.mk.injEq,DataW.agg.injEq] at hx
 have hvn:vs.length=n:=by
  have:=congrArg List.length hx.1;simp at this;omega
 have h1:=hel i hi;rw [hcu,List.getElem?_eq_getElem (by omega)] at h1;have h2:(xs.map (·.1))[i]?=(vs.map fun l=>(DataW.agg (l.map fun v=>.lit (.int k v)):DataW H))[i]?:=by rw [hx.1]
 rw [List.getElem?_map,List.getElem?_map,List.getElem?_eq_getElem (show i < xs.length by omega),List.getElem?_eq_getElem (show i < vs.length by omega)] at h2;simp only [Option.map_some,Option.some.injEq] at h2;have h3:=ints_of (d:=(xs[i]'(by omega)).1) (p:=(xs[i]'(by omega)).2) hu he hc hcu h1 (vs[i]'(by omega)) h2;have h4:vs.getD i []=vs[i]'(by omega):=by simp [List.getD,List.getElem?_eq_getElem (show i < vs.length by omega)]
 rw [h4,← h3,List.getElem?_take_of_lt hj,List.getElem?_drop]
theorem gBeg:Tryz.prog.globalNamed "cartouche/blake.beginning"=some 0:=by kernel_rfl
theorem gMix:Tryz.prog.globalNamed "cartouche/blake.mixings"=some 1:=by kernel_rfl
theorem gOrd:Tryz.prog.globalNamed "cartouche/blake.orders"=some 2:=by kernel_rfl
theorem tBeg:(Tryz.prog.globals[0]?).map (·.type)=some 99:=by kernel_rfl
theorem tMix:(Tryz.prog.globals[1]?).map (·.type)=some 194:=by kernel_rfl
theorem tOrd:(Tryz.prog.globals[2]?).map (·.type)=some 199:=by kernel_rfl
theorem block_of {P:Program} {w:World} {n:String} {g:Nat} {cs:Array Value} (hg:P.globalNamed n=some g) (h:w.var? P n=some cs) (hz:∃ c t,w.heap[g]?=some (.cells c t (0,0))):∃ t,w.heap[g]?=some (.cells cs t (0,0)):=by
 obtain ⟨c,t,hc⟩:=hz;simp only [World.var?,hg,Option.bind_some,hc,Option.some.injEq] at h;exact ⟨t,by rw [hc,h]⟩
theorem of_laid {W:World} (h:laidMetH Tryz.prog laid3 W):G W:=by
 rw [MakeChecks.laidMetH_plain _ _ _ (by kernel_rfl)] at h;obtain ⟨ps,⟨g0,t0,cs0,f0,p0,q0,hg0,ht0,hv0,hd0,⟨g1,t1,cs1,f1,p1,q1,hg1,ht1,hv1,hd1,⟨g2,t2,cs2,f2,p2,q2,hg2,ht2,hv2,hd2,hq2,rfl⟩,rfl⟩,rfl⟩,_,hz⟩:=h;obtain rfl:=Option.some.inj (gBeg.symm.trans hg0);obtain rfl:=Option.some.inj (gOrd.symm.trans hg1);obtain rfl:=Option.some.inj (gMix.symm.trans hg2);obtain rfl:=Option.some.inj (tBeg.symm.trans ht0);obtain rfl:=Option.some.inj (tOrd.symm.trans ht1);obtain rfl:=Option.some.inj (tMix.symm.trans ht2);have e0:=ints_of Tryz.underlying99 Tryz.underlying98 (by kernel_rfl) (by kernel_rfl) hd0 firstL rfl;have e1:=ints_of Tryz.underlying199 Tryz.underlying93 (by kernel_rfl) (by kernel_rfl) hd1 (ords.map fun (n:Nat)=>(n:Int)) rfl
 have e2:=rows_of (by decide) Tryz.underlying194 Tryz.underlying193 Tryz.underlying3 (by kernel_rfl) (by kernel_rfl) (by kernel_rfl) hd2 (qd.map fun l=>l.map fun (n:Nat)=>(n:Int)) rfl
 have l2:cs2.toList.length=32:=by
  obtain ⟨_,_,_,_,hl,_⟩:=DataW.trod_array Tryz.underlying194 hd2;rw [hl];kernel_rfl
 have c0:cs0=wv firstL:=by apply Array.toList_inj.1;rw [e0];rfl
 have c1:cs1=ordV:=by apply Array.toList_inj.1;rw [e1];rfl
 have c2:cs2=mixV:=by
  apply Array.toList_inj.1;apply List.ext_getElem?;intro i
  by_cases hi:i < 32
  ·have:=e2 (i / 4) (i % 4) (by omega) (by omega)
   rw [show i / 4*4+i % 4=i by omega] at this;rw [this];have hm:mixV.toList=qd.flatten.map fun (n:Nat)=>Value.int .i64 (n:Int):=rfl
   rw [hm,List.getElem?_map,List.getElem?_map];have h1:∀ i,i < 32→((qd.map fun l=>l.map fun (n:Nat)=>(n:Int)).getD (i / 4) [])[i % 4]?=(qd.flatten[i]?).map (fun (n:Nat)=>(n:Int)):=by decide
   rw [h1 i hi,Option.map_map];rfl
  ·rw [List.getElem?_eq_none (by omega),List.getElem?_eq_none (by show 32≤i;omega)]
 subst c0 c1 c2;refine ⟨block_of gBeg hv0 ?_,block_of gMix hv2 ?_,block_of gOrd hv1 ?_⟩
 ·exact (hz 0 0 (by simp [MemPlace.row,wv,firstL])).1
 ·exact (hz 1 0 (by simp only [MemPlace.row,List.mem_append,List.mem_map];exact Or.inr (Or.inr (Or.inl (Or.inl ⟨0,by decide,rfl⟩))))).1
 ·exact (hz 2 0 (by simp only [MemPlace.row,List.mem_append,List.mem_map];exact Or.inr (Or.inl (Or.inl ⟨0,by decide,rfl⟩)))).1
theorem door_met2 (os:Os) (args:Array Value):laidMetH Tryz.prog laid3 ((World.doorLaid Tryz.prog 400 os).forCall (fun _ _=>0) ⟨#[],args,[]⟩).memory :=
 laidMetH_of_parts3 (fuel:=8) (laidMet_of_run' 8 (by kernel_rfl) (by kernel_rfl)) (by kernel_rfl) (by kernel_rfl)
end Go.Proofs.YthamoeekiglphaaGreatDoor
