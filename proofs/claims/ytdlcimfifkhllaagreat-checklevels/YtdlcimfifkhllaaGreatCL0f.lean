/-
  A region that draws its order within the wide fence, as anywhere: of no program. What the function that All hands on does: an edge more, behind those that were
-/
import Derived.Test.YtdlcimfifkhllaaGreatCL0e
import Derived.Test.YtdlcimfifkhllaaGreatCL0d
import Derived.Below
import Derived.Laws.StructEq
namespace Go.Proofs.YtdlcimfifkhllaaGreat
set_option maxRecDepth 100000
open Go.RowKit
set_option linter.unusedVariables false
section
variable {P:Program} {ops:Array Oper} {md:Region.Mode} {Q:Exit→Act→World→Prop}
theorem opW_of {n:Nat} {o:Oper} {a:Act} {w:World} {K:Act→World→Prop} (hnd:∀ c,o.op≠.defer c) (h:o.wp P a w K Q):o.wpIn Fence.wide n P a w K Q:=by
 unfold Oper.wpIn
 refine ⟨fun _ _=>trivial,?_⟩
 rw [show Fence.wide.round=none from rfl,show Oper.semAt none a.eval o=execOp a.eval o by unfold Oper.semAt;cases ho:o.op<;>first | rfl | exact absurd ho (hnd _)]
 unfold Oper.wp at h
 generalize (execOp a.eval o).run P w=r at *
 cases r with
 | ok n w' =>
   cases n<;>simp only [Oper.upon,Oper.uponIn] at h ⊢
   case value u=>exact h
   case skip=>exact h
   case defer d=>exact h
   case enter f args=>exact ⟨fun h0=>(by cases h0),callsIn_wide.2 h⟩
   case row row args=>exact ⟨fun h0=>(by cases h0),fun c cs _=>let ⟨v,w',r,s⟩:=h c cs;⟨v,w',r,stepsIn_wide.2 s⟩⟩
 | halt x w' =>
   cases x<;>simp only [Oper.upon,Oper.uponIn] at h ⊢
   case panic u=>exact h
theorem anyW_of {n:Nat} (hlo:¬ LetsOut Q) (hnd:noDefer ops=true):∀ (f:Nat) (listed:Array Bool) (a:Act) (w:World),wpAny P md ops Q f listed a w→wpAnyIn Fence.wide n P md ops Q f listed a w
 | 0,_,_,_,h=>h
 | f+1,listed,a,w,h=>by
   refine ⟨h.1,fun i hi=>?_⟩
   have h1:=h.2 i hi
   unfold wpOp at h1
   unfold wpOpIn
   cases ho:ops[i]? with
   | none=>simp only [ho] at h1 ⊢;exact anyW_of hlo hnd f _ _ _ h1
   | some o =>
     simp only [ho] at h1 ⊢
     by_cases hw:Region.wanted o (yielded ops a.tmps)=true
     ·rw [if_pos hw] at h1 ⊢
      rcases h1 with h1 | h1
      ·exact Oper.wpIn_mono (fun a' w' h'=>anyW_of hlo hnd f _ a' w' h') (opW_of (noDefer_spec hnd i o ho) h1)
      ·exact absurd h1.2 hlo
     ·rw [if_neg hw] at h1 ⊢
      exact ⟨fun _ _=>trivial,anyW_of hlo hnd f _ _ _ h1⟩
theorem regionW_any {n id:Nat} {a:Act} {w:World} (hm:P.follows .mixedOrders=true) (hlo:¬ LetsOut Q) (hnd:noDefer ops=true)
 (h:wpAny P .any ops Q ops.size (Array.replicate ops.size false) a w.drew):(Code.region id ops true).wpIn Fence.wide n P Q a w :=
 wpIn_region_any hm (anyW_of hlo hnd _ _ _ _ h)
def calmQ (Q:Exit→Act→World→Prop):Exit→Act→World→Prop
 | .panic _,_,_=>False
 | .outgrown,_,_=>False
 | .normal,a,w=>Q .normal a w
 | .ret,a,w=>Q .ret a w
 | .exit id,a,w=>Q (.exit id) a w
 | .goto t,a,w=>Q (.goto t) a w
theorem calm_normal {a:Act} {w:World} (h:Q .normal a w):calmQ Q .normal a w:=h
theorem calm_le:∀ (e:Exit) (a:Act) (w:World),calmQ Q e a w→Q e a w
 | .panic _,_,_,h=>h.elim
 | .outgrown,_,_,h=>h.elim
 | .normal,_,_,h=>h
 | .ret,_,_,h=>h
 | .exit _,_,_,h=>h
 | .goto _,_,_,h=>h
theorem regionW_calm {n id:Nat} {a:Act} {w:World} (hm:P.follows .mixedOrders=true) (hnd:noDefer ops=true)
 (h:wpAny P .any ops (calmQ Q) ops.size (Array.replicate ops.size false) a w.drew):(Code.region id ops true).wpIn Fence.wide n P Q a w :=
 Code.wpIn_mono calm_le (regionW_any hm (fun ⟨_,_,h⟩=>h) hnd h)
end
end Go.Proofs.YtdlcimfifkhllaaGreat
namespace Go.Proofs.YtdlcimfifkhllaaGreat
set_option maxRecDepth 100000
open Go.RowKit Go.Maps
set_option linter.unusedVariables false
attribute [local go_sem] ba_size
structure GSt (w:World) (sl v:Value) (L:List Ed) (W:World):Prop where
 below:Below w.heap.size w W
 size:w.heap.size+1+1≤W.heap.size
 b0:Boxed W w.heap.size 22 sl
 bv:Boxed W (w.heap.size+1) 26 v
 row:W.ownsRow w.heap.size 71 5 v L.length (recV edV L)
 far:∀ g,v.ownBlock=some g→w.heap.size+1+1≤g
theorem GSt.bel {w:World} {sl v:Value} {L:List Ed} {W W':World} (h:GSt w sl v L W) (hb:Below W.heap.size W W'):GSt w sl v L W' :=
 ⟨bel_trans h.below hb,Nat.le_trans h.size hb.size,boxed_below7 h.b0 hb,boxed_below7 h.bv hb,owns_below h.row hb,h.far⟩
def FrG (W W':World):Prop:=W.heap.size≤W'.heap.size∧∀ (j:Nat) (cs:Array Value) (t:TypeId) (fr:Nat × Nat),t≠71→t≠26→W.heap[j]?=some (.cells cs t fr)→W'.heap[j]?=some (.cells cs t fr)
theorem FrG.refl (W:World):FrG W W:=⟨Nat.le_refl _,fun _ _ _ _ _ _ h=>h⟩
theorem FrG.trans {a b c:World} (h:FrG a b) (k:FrG b c):FrG a c:=⟨Nat.le_trans h.1 k.1,fun j cs t fr h1 h2 h3=>k.2 j cs t fr h1 h2 (h.2 j cs t fr h1 h2 h3)⟩
theorem FrG.of_below {W W':World} (hb:Below W.heap.size W W'):FrG W W':=⟨hb.size,fun j cs t fr _ _ h3=>(hb.block j (Array.getElem?_eq_some_iff.1 h3).1).trans h3⟩
theorem FrG.boxed {W W':World} {b t:Nat} {v:Value} (h:FrG W W') (hb:Boxed W b t v) (h1:t≠71) (h2:t≠26):Boxed W' b t v:=h.2 b _ t _ h1 h2 hb
theorem FrG.owns {W W':World} {B e k n:Nat} {v:Value} {xs:List Value} (h:FrG W W') (ho:W.ownsRow B e k v n xs) (h1:e≠71) (h2:e≠26):W'.ownsRow B e k v n xs:=by
 refine ⟨ho.1,?_⟩
 rcases ho.2 with hh | ⟨g,cap,cur,hv,hb,hg,rest⟩
 ·exact .inl hh
 ·exact .inr ⟨g,cap,cur,hv,hb,h.2 g _ _ _ h1 h2 hg,rest⟩
def gEd (h:List Ev) (k:Int) (i j:Nat):List Ed:=if (ev h i).2.1=(ev h j).2.1 then [] else [(k,(ev h i).2.1,(ev h j).2.1,(i:Int),(j:Int))]
theorem gEd_len (h:List Ev) (k:Int) (i j:Nat):(gEd h k i j).length≤1:=by unfold gEd;by_cases e:(ev h i).2.1=(ev h j).2.1<;>simp [e]
def GRes (w:World) (sl:Value) (W:World) (L:List Ed) (e:Ending) (W':World):Prop:=e=.returned (.tuple #[])∧FrG W W'∧∃ v',GSt w sl v' L W'
theorem GSt.gain {w:World} {sl v v':Value} {L L':List Ed} {W W':World} (h:GSt w sl v L W) (hown:W'.ownsRow w.heap.size 71 5 v' L'.length (recV edV L')) (hg:W.grownBy W' v.ownBlock) (hat:v'.ownBlock=v.ownBlock∨∃ g,v'.ownBlock=some g∧W.heap.size≤g) :
 GSt w sl v' L' (W'.setCell ⟨w.heap.size+1,0,none⟩ v')∧FrG W (W'.setCell ⟨w.heap.size+1,0,none⟩ v'):=by
 have hs:=h.size
 have hfar:∀ g,v'.ownBlock=some g→w.heap.size+1+1≤g:=fun g hv=>by
  rcases hat with e | ⟨g',e,e2⟩
  ·exact h.far g (by rw [← e];exact hv)
  ·rw [hv] at e
   have:=Option.some.inj e
   omega
 have o:∀ j,j < w.heap.size+1+1→some j≠v.ownBlock:=fun j hj e=>by have:=h.far j e.symm;omega
 have hsz:=hg.size
 have hb:Below w.heap.size w W':=h.below.grown hg (by omega) (fun r e=>by have:=h.far r e;omega)
 have bv':=h.bv.kept hg (o _ (by omega))
 refine ⟨⟨hb.setCell (p:=⟨w.heap.size+1,0,none⟩) (Nat.le_add_right _ _) _,by simp;omega,?_,bv'.set _,owns_keep7 (g:=w.heap.size+1) (j:=0) hown _ (fun e=>by have:=hfar _ e.symm;omega),hfar⟩,by simp;omega,fun j cs t fr h1 h2 h3=>?_⟩
 ·show _=_
  rw [Below.heap_setCell _ _ _ _ (show w.heap.size≠w.heap.size+1 by omega)]
  exact h.b0.kept hg (o _ (by omega))
 ·have hlt:=(Array.getElem?_eq_some_iff.1 h3).1
  have n1:j≠w.heap.size+1:=fun e=>by
   subst e
   have:=h.bv
   unfold Boxed at this
   rw [h3] at this
   simp only [Option.some.injEq,Obj.cells.injEq] at this
   exact h2 this.2.1
  have n2:some j≠v.ownBlock:=by
   rcases h.row.2 with ⟨e,_⟩ | ⟨g,cp,cur,e,_,hgb,_⟩
   ·rw [e];simp [Value.ownBlock]
   ·rw [e]
    intro e2
    have e3:j=g:=Option.some.inj e2
    subst e3
    rw [h3] at hgb
    simp only [Option.some.injEq,Obj.cells.injEq] at hgb
    exact h1 hgb.2.1
  rw [Below.heap_setCell _ _ _ _ n1,hg.block j hlt n2]
  exact h3
set_option maxHeartbeats 2000000 in
theorem pgather_any (h:List Ev) (w:World) (a:Option Addr) (cap:Nat) (hT:IsEvs w (.slice a h.length cap) h) (v:Value) (L:List Ed) (W:World) (hS:GSt w (.slice a h.length cap) v L W) (k:Int) (i j:Nat) (hi:i < h.length) (hj:j < h.length) (hL:L.length≤1000000) :
 Calls Tryz.prog 62 #[.int .i64 k,.int .i64 (i:Int),.int .i64 (j:Int),.pointer (some ⟨w.heap.size,0,none⟩),.pointer (some ⟨w.heap.size+1,0,none⟩)] W fun e W'=>GRes w (.slice a h.length cap) W (L++gEd h k i j) e W':=by
 obtain ⟨a',cap',e1,h1,h2,h3,HC⟩:=hT.reads
 obtain ⟨rfl,rfl⟩:a'=a∧cap'=cap:=by simpa [eq_comm] using e1
 clear e1
 obtain ⟨bb,off,rfl,HQ⟩:=HC.out (by omega)
 obtain ⟨_,c1,_,_⟩:=HQ.out i hi _ hS.below
 obtain ⟨_,d1,_,_⟩:=HQ.out j hj _ hS.below
 unfold gEd
 obtain ⟨x1,hx⟩:∃ x,(ev h i).2.1=x:=⟨_,rfl⟩
 obtain ⟨y1,hy⟩:∃ x,(ev h j).2.1=x:=⟨_,rfl⟩
 rw [hx] at c1 ⊢
 rw [hy] at d1 ⊢
 obtain ⟨n,hn⟩:∃ n,h.length=n:=⟨_,rfl⟩
 rw [hn] at hS hi hj h1 h3 ⊢
 clear hx hy hT HC HQ hn
 have p0:=hS.b0.cell
 have ji:(i:Int) < (n:Int):=by omega
 have jj:(j:Int) < (n:Int):=by omega
 by_cases e:x1=y1
 ·subst e
  rw [if_pos rfl,List.append_nil]
  go_enter Tryz.func62,Tryz.ntmps62
  go_wp2_with fail
  go_quiet (fail)
  go_wp2_with fail
  go_end0
  have bq:=below_drewN (Below.refl W.heap.size W) nq
  exact ⟨rfl,FrG.of_below bq,v,hS.bel bq⟩
 ·rw [if_neg e]
  have e2:(x1 != y1)=true:=bne_iff_ne.2 e
  clear e
  go_enter Tryz.func62,Tryz.ntmps62
  go_wp2_with fail
  go_quiet (fail)
  generalize hV:World.drewN _ _=V
  have bq:Below W.heap.size W V:=by rw [← hV];exact below_drewN (Below.refl W.heap.size W) nq
  clear hV p0 c1 d1
  have hS2:=hS.bel bq
  have q1:=hS2.bv.cell
  obtain ⟨ad,cc,rfl⟩:=own_shape hS2.row
  go_wp2_with fail
  refine (pbhE_any _ L.length _ k x1 y1 (i:Int) (j:Int) w.heap.size _ hS2.row hS2.below.size (by omega)).mono ?_
  rintro e3 w3 ⟨r3,rfl,hown3,hg3,hat3⟩
  have hown4:w3.ownsRow w.heap.size 71 5 r3 (L++[(k,x1,y1,(i:Int),(j:Int))]).length (recV edV (L++[(k,x1,y1,(i:Int),(j:Int))])):=by rw [List.length_append,recV_append];exact hown3
  obtain ⟨g1,g2⟩:=hS2.gain hown4 hg3 hat3
  have bv3:=hS2.bv.kept hg3 (fun e=>by have:=hS2.far _ e.symm;omega)
  have q2:=bv3.cell
  have q3:=bv3.frozen
  obtain ⟨ad3,cc3,rfl⟩:=own_shape hown3
  go_wp2_with fail
  go_end0
  exact ⟨rfl,(FrG.of_below bq).trans g2,_,g1⟩
abbrev readF10 (b c:Nat):Value:=.func (.func 121) #[] #[.pointer (some ⟨b,0,none⟩),.pointer (some ⟨c,0,none⟩)]
set_option maxHeartbeats 2000000 in
theorem pread1_any (h:List Ev) (sl:Value) (W:World) (hT:IsEvs W sl h) (b c q p:Nat) (hq:q < h.length) (hp:p < h.length) (B1:Boxed W b 22 sl) (B2:Boxed W c 3 (.int .i64 (q:Int))) :
 Calls Tryz.prog 121 #[.int .i64 (p:Int),.pointer (some ⟨b,0,none⟩),.pointer (some ⟨c,0,none⟩)] W fun e W'=>e=.returned (.bool (decide ((ev h p).2.2.2=(ev h q).2.2.2)))∧Below W.heap.size W W':=by
 obtain ⟨a,cap,rfl,h1,h2,h3,HC⟩:=hT.reads
 obtain ⟨bb,off,rfl,HQ⟩:=HC.out (by omega)
 obtain ⟨_,_,_,c3⟩:=HQ.out q hq _ (Below.refl _ _)
 obtain ⟨_,_,_,d3⟩:=HQ.out p hp _ (Below.refl _ _)
 obtain ⟨x,hx⟩:∃ x,(ev h p).2.2.2=x:=⟨_,rfl⟩
 obtain ⟨y,hy⟩:∃ x,(ev h q).2.2.2=x:=⟨_,rfl⟩
 rw [hx] at d3 ⊢
 rw [hy] at c3 ⊢
 obtain ⟨n,hn⟩:∃ n,h.length=n:=⟨_,rfl⟩
 rw [hn] at B1 hq hp h1 h3
 clear hx hy hT HC HQ hn
 have p0:=B1.cell
 have p1:=B2.cell
 have ji:(q:Int) < (n:Int):=by omega
 have jj:(p:Int) < (n:Int):=by omega
 by_cases e:x=y
 ·subst e
  rw [decide_eq_true rfl]
  go_enter Tryz.func121,Tryz.ntmps121
  go_wp2_with fail
  go_quiet (fail)
  go_wp2_with fail
  go_ret
  exact ⟨rfl,below_drewN (Below.refl _ _) nq⟩
 ·rw [decide_eq_false e]
  have e2:(x==y)=false:=beq_eq_false_iff_ne.2 e
  go_enter Tryz.func121,Tryz.ntmps121
  go_wp2_with fail
  go_quiet (fail)
  go_wp2_with fail
  go_ret
  exact ⟨rfl,below_drewN (Below.refl _ _) nq⟩
set_option maxHeartbeats 2000000 in
theorem pidx_any (h:List Ev) (sl vs:Value) (V:List Nat) (W:World) (hT:IsEvs W sl h) (b c q:Nat) (hq:q < h.length) (hV:∀ x∈V,x < h.length) (hvs:IsInts W vs (V.map Int.ofNat)) (B1:Boxed W b 22 sl) (B2:Boxed W c 3 (.int .i64 (q:Int))) :
 Calls Tryz.prog 120 #[vs,readF10 b c] W fun e W'=>e=.returned (.int .i64 (oI (verAt h V q)))∧Below W.heap.size W W':=by
 have C:=fun (p:Nat) (hp:p < h.length) V' (hV':Below W.heap.size W V')=>pread1_any h sl V' (hT.below hV') b c q p hq hp (boxed_below7 B1 hV') (boxed_below7 B2 hV')
 obtain ⟨a,cap,rfl,h1,h2,h3,HC⟩:=hvs.reads
 rw [List.length_map] at h1 h3 HC ⊢
 rw [verAt_is]
 obtain ⟨n,hn⟩:∃ n,V.length=n:=⟨_,rfl⟩
 have HN:Hid (V.length=n):=hn
 rw [hn] at h1 h3 ⊢
 clear hn hvs
 go_enter Tryz.func120,Tryz.ntmps120
 go_wp2_with fail
 go_loopw [8] (fun i wr=>∃ k:Nat,k≤n∧i=.int .i64 k∧Hid (∀ j,j < k→isVer h V q j=false)∧Below W.heap.size W wr) (fun i _=>n - (intOf i).toNat)
 case atStart=>exact ⟨0,Nat.zero_le _,rfl,fun j hj=>absurd hj (by omega),Below.refl _ _⟩
 case round =>
  obtain ⟨k,hk,rfl,HF,hB⟩:=hrel
  by_cases hlt:k < n
  ·have j0:(k:Int) < (n:Int):=by omega
   have hkl:k < V.length:=by have:=HN.out;omega
   obtain ⟨bb,off,rfl,HQ⟩:=HC.out (by omega)
   have c0:=HQ.out k hkl _ hB
   have e0:(V.map Int.ofNat).getD k 0=(vAt V k:Int):=by
    unfold vAt
    rw [List.getD_eq_getElem?_getD,List.getD_eq_getElem?_getD,List.getElem?_map,List.getElem?_eq_getElem hkl]
    rfl
   rw [e0] at c0
   have hp:vAt V k < h.length:=by
    refine hV _ ?_
    unfold vAt
    rw [List.getD_eq_getElem?_getD,List.getElem?_eq_getElem hkl]
    exact List.getElem_mem _
   have D:=C (vAt V k) hp _ hB
   have HI:Hid (isVer h V q k=decide ((ev h (vAt V k)).2.2.2=(ev h q).2.2.2)):=rfl
   obtain ⟨p,hpp⟩:∃ p,vAt V k=p:=⟨_,rfl⟩
   rw [hpp] at c0 D HI
   obtain ⟨bl,hbl⟩:∃ bl,decide ((ev h p).2.2.2=(ev h q).2.2.2)=bl:=⟨_,rfl⟩
   rw [hbl] at D HI
   clear hbl hpp hp e0
   cases bl with
   | true =>
     go_wp2_with fail
     refine D.mono ?_
     rintro e1 w1 ⟨rfl,b1⟩
     have HE:Hid (fi (isVer h V q) n=some k):=(fi_some _ _ _).2 ⟨hlt,HI.out,HF.out⟩
     go_wp2_with fail
     go_ret
     refine ⟨?_,bel_trans hB b1⟩
     rw [HE.out]
     rfl
   | false =>
     go_wp2_with fail
     refine D.mono ?_
     rintro e1 w1 ⟨rfl,b1⟩
     go_wp2_with fail
     refine ⟨⟨k+1,by omega,by first | go_num | simp,?_,bel_trans hB b1⟩,by simp [intOf];omega⟩
     intro j hj
     rcases Nat.lt_succ_iff_lt_or_eq.1 hj with h' | rfl
     ·exact HF.out j h'
     ·exact HI.out
  ·obtain rfl:k=n:=by omega
   have jq:¬ (k:Int) < (k:Int):=by omega
   have HE:Hid (fi (isVer h V q) k=none):=(fi_none _ _).2 HF.out
   go_wp2_with fail
   go_ret
   refine ⟨?_,hB⟩
   rw [HE.out]
   rfl
end Go.Proofs.YtdlcimfifkhllaaGreat
namespace Go.Proofs.YtdlcimfifkhllaaGreat
set_option maxRecDepth 100000
open Go.RowKit
set_option linter.unusedVariables false
section
variable {P:Program} {ops:Array Oper} {md:Region.Mode} {Q:Exit→Act→World→Prop}
def chainW (md:Region.Mode) (ops:Array Oper):Nat→List Nat→Bool
 | _,[]=>true
 | i,m::ms=>Region.waitsFor md ops m i&&chainW md ops m ms
def unlB (listed:Array Bool) (ms:List Nat):Bool:=ms.all fun m=>listed.getD m false==false
theorem unlB_iff (listed:Array Bool) (ms:List Nat):unlB listed ms=true↔∀ m∈ms,listed.getD m false=false:=by
 unfold unlB
 rw [List.all_eq_true]
 exact ⟨fun h m hm=>by simpa using h m hm,fun h m hm=>by simpa using h m hm⟩
theorem chain_not (listed:Array Bool) (j:Nat) (hj:j∈Region.ready md ops listed):∀ (ms:List Nat) (i:Nat),listed.getD i false=false→(∀ m∈ms,listed.getD m false=false)→chainW md ops i ms=true→j ∉ ms
 | [],_,_,_,_=>by simp
 | m::ms,i,hi,hu,hc=>by
   rw [chainW,Bool.and_eq_true] at hc
   intro hm
   rcases List.mem_cons.1 hm with e | e
   ·subst e
    obtain ⟨o',ho',e,he,hb,hon⟩:=Region.waitsFor_spec hc.1
    obtain ⟨_,oj,hoj,hall⟩:=mem_ready.1 hj
    obtain rfl:o'=oj:=Option.some.inj (ho'.symm.trans hoj)
    have h4:=hall e he hb
    rw [hon,hi] at h4
    cases h4
   ·exact chain_not listed j hj ms m (hu m (List.mem_cons_self ..)) (fun x hx=>hu x (List.mem_cons_of_mem _ hx)) hc.2 e
theorem firstCC {C:World→Prop} {d i:Nat} {ms:List Nat} {oi:Oper} {v:Value} (hi:ops[i]?=some oi) (hsel:∀ (j:Nat) (o:Oper) cs b,ops[j]?=some o→o.op≠.select cs b)
 (hc:chainW md ops i ms=true) (hdm:d∈ms) (hQ:∀ c a w,Q (.panic c) (a.put oi.dst v) w→Q (.panic c) a w) :
 ∀ (f:Nat) (listed:Array Bool) (a:Act) (w:World),(∀ m∈ms,listed.getD m false=false) →
   (∀ j oj,ops[j]?=some oj→j≠i→listed.getD j true=false→(∀ e∈oj.after,Region.binds md e=true→e.on≠i)→oi.apart ops oj=true) →
   i∈Region.ready md ops listed→YieldsC C P ops oi v a →
   wpAnyC C d P md ops Q f (listed.setIfInBounds i true) (a.put oi.dst v) w→wpAnyC C d P md ops Q (f+1) listed a w:=by
 have hnm:∀ (listed:Array Bool) j,i∈Region.ready md ops listed→(∀ m∈ms,listed.getD m false=false)→j∈Region.ready md ops listed→j ∉ ms:=fun listed j hr hu hj =>
  chain_not listed j hj ms i (getD_both (mem_ready.1 hr).1) hu hc
 intro f
 induction f with
 | zero =>
   intro listed a w hml _ hr hy H
   have hdl:=hml d hdm
   have hid:i≠d:=fun e=>hnm listed i hr hml hr (by rw [e];exact hdm)
   refine .inr ⟨hdl,H.2 (by rw [getD_set_ne false hid];exact hdl),fun h=>(by rw [h] at hr;cases hr),fun j hj=>?_⟩
   by_cases hji:j=i
   ·subst hji;exact hy.op hi (H.2 (by rw [getD_set_ne false hid];exact hdl)) H
   ·have:=ready_mono hj hji
    rw [H.1.1] at this
    cases this
 | succ f ih =>
   intro listed a w hml hfree hr hy H
   have hdl:=hml d hdm
   have hid:i≠d:=fun e=>hnm listed i hr hml hr (by rw [e];exact hdm)
   rcases H with H | H
   ·rw [getD_set_ne false hid,hdl] at H;cases H.1
   ·obtain ⟨hd1,hC,hn,H⟩:=H
    refine .inr ⟨hdl,hC,fun h=>(by rw [h] at hr;cases hr),fun j hj=>?_⟩
    by_cases hji:j=i
    ·subst hji;exact hy.op hi hC (.inr ⟨hd1,hC,hn,H⟩)
    ·have h1:=H j (ready_mono hj hji)
     obtain ⟨hjun,oj,hoj,hall⟩:=mem_ready.1 hj
     have hnot:∀ e∈oj.after,Region.binds md e=true→e.on≠i:=fun e he hb heq=>by
      have h1:=hall e he hb
      rw [heq,getD_both (mem_ready.1 hr).1] at h1
      cases h1
     have h2:=wpOp_putC hoj (hfree j oj hoj hji hjun hnot) (fun cs b=>hsel i oi cs b hi) (fun cs b=>hsel j oj cs b hoj) hQ hy h1
     have hjm:=hnm listed j hr hml hj
     refine wpOp_mono (fun a' w' h3=>ih (listed.setIfInBounds j true) a' w' (fun m hm=>by rw [getD_set_ne false (fun e=>hjm (by rw [e];exact hm))];exact hml m hm) (fun k ok hk hki hku hno=>?_) (ready_mono hr (Ne.symm hji)) h3.1 ?_) h2
     ·refine hfree k ok hk hki ?_ hno
      by_cases hjk:j=k
      ·subst hjk;exact hjun
      ·rw [getD_set_ne true hjk] at hku;exact hku
     ·rw [Array.setIfInBounds_comm _ _ hji]
      exact h3.2
theorem takeCC {C:World→Prop} {d i:Nat} (ms:List Nat) {oi:Oper} {v:Value} {f:Nat} {listed:Array Bool} {a:Act} {w:World} (hi:ops[i]?=some oi)
 (hs:Region.noSelect ops=true) (hf:Region.free md ops listed i=true) (hr:(Region.ready md ops listed).contains i=true) (hc:chainW md ops i ms=true) (hd:ms.contains d=true) (hml:unlB listed ms=true)
 (hQ:∀ c a w,Q (.panic c) (a.put oi.dst v) w→Q (.panic c) a w) (hy:YieldsC C P ops oi v a)
 (h:wpAnyC C d P md ops Q f (listed.setIfInBounds i true) (a.put oi.dst v) w):wpAnyC C d P md ops Q (f+1) listed a w :=
 firstCC hi (Region.noSelect_spec hs) hc (by simpa using hd) hQ f listed a w ((unlB_iff _ _).1 hml) (Region.free_spec hi hf) (by simpa using hr) hy h
end
end Go.Proofs.YtdlcimfifkhllaaGreat
namespace Go.Proofs.YtdlcimfifkhllaaGreat
set_option maxRecDepth 100000
set_option linter.unusedVariables false
def updN (f:Int→Option Nat) (t:Int) (k:Nat):Int→Option Nat:=fun u=>if u=t then some k else f u
def lastS (h:List Ev) (key:List UInt8) (f:Int→Option Nat) (x:Fin h.length):Int→Option Nat:=if h[x.val].1=3∧h[x.val].2.2.1=key then updN f h[x.val].2.1 x.val else f
def versS (h:List Ev) (key:List UInt8) (s:(Int→Option Nat) × List Nat) (x:Fin h.length):(Int→Option Nat) × List Nat :=
 (lastS h key s.1 x,if h[x.val].1=4 then s.2++(lastS h key s.1 x h[x.val].2.1).toList else s.2)
def versF (h:List Ev) (key:List UInt8) (pre:List (Fin h.length)):(Int→Option Nat) × List Nat:=pre.foldl (versS h key) (fun _=>none,[])
theorem versF_snoc (h:List Ev) (key:List UInt8) (pre:List (Fin h.length)) (x:Fin h.length):versF h key (pre++[x])=versS h key (versF h key pre) x:=by
 unfold versF
 rw [List.foldl_append]
 rfl
theorem versF_len (h:List Ev) (key:List UInt8) (x:Fin h.length) (s:(Int→Option Nat) × List Nat):(versS h key s x).2.length≤s.2.length+1:=by
 unfold versS
 simp only
 by_cases h4:h[x.val].1=4
 ·rw [if_pos h4,List.length_append]
  cases lastS h key s.1 x h[x.val].2.1<;>simp
 ·rw [if_neg h4];omega
theorem endL_upto {h:List Ev} {t:Int} {k:Nat} (he:endL h t k=none) (hx:(ev h k).2.1=t) (h4:(ev h k).1=4∨(ev h k).1=5) (hk:k < h.length):endL h t h.length=some k:=(endL_some h t h.length k).2 ⟨hk,⟨hx,h4⟩,(endL_none h t k).1 he⟩
theorem vers_take (h:List Ev) (key:List UInt8):∀ k,k≤h.length →
 (versF h key (livF h ((List.finRange h.length).take k))).2=(List.range k).filterMap (verOf h key)∧∀ t,endL h t k=none→(versF h key (livF h ((List.finRange h.length).take k))).1 t=lastN h t key k
 | 0,_=>⟨rfl,fun t _=>rfl⟩
 | k+1,hk=>by
   obtain ⟨ih1,ih2⟩:=vers_take h key k (by omega)
   have hk':k < h.length:=by omega
   rw [fin_take hk']
   have hd:=endedIn_take h k (by omega) h[k].2.1
   have ek:=ev_get h k hk'
   rw [List.range_succ,List.filterMap_append]
   cases he:endL h h[k].2.1 k with
   | some e =>
     rw [he] at hd
     rw [livF_snoc_dead h _ ⟨k,hk'⟩ hd]
     constructor
     ·rw [ih1]
      have:verOf h key k=none:=by
       unfold verOf
       rw [if_neg]
       rintro ⟨_,h2⟩
       rw [ek] at h2
       obtain ⟨e1,e2,e3⟩:=(endL_some h _ _ _).1 he
       exact ((endL_some h _ _ _).1 h2).2.2 e (by omega) e2
      simp [this]
     ·intro t ht
      have hne:(ev h k).2.1≠t:=by
       intro hh
       rw [ek] at hh
       rw [hh] at he
       obtain ⟨e1,e2,e3⟩:=(endL_some h _ _ _).1 he
       exact (endL_none h t (k+1)).1 ht e (by omega) e2
      have h0:endL h t k=none:=(endL_none h t k).2 (fun j hj=>(endL_none h t (k+1)).1 ht j (by omega))
      rw [ih2 t h0]
      show _=la _ (k+1)
      rw [la,if_neg]
      ·rfl
      ·unfold isWrT
       rw [decide_eq_true_eq]
       exact fun hh=>hne hh.2.1
   | none =>
     rw [he] at hd
     rw [livF_snoc h _ ⟨k,hk'⟩ hd,versF_snoc]
     generalize hs:versF h key (livF h ((List.finRange h.length).take k))=s at ih1 ih2
     have hl:(lastS h key s.1 ⟨k,hk'⟩) h[k].2.1=lastN h h[k].2.1 key (k+1):=by
      show _=la _ (k+1)
      rw [la]
      unfold lastS
      simp only
      by_cases hw:h[k].1=3∧h[k].2.2.1=key
      ·rw [if_pos hw,if_pos]
       ·unfold updN;rw [if_pos rfl]
       ·unfold isWrT;rw [ek,decide_eq_true_eq];exact ⟨hw.1,rfl,hw.2⟩
      ·rw [if_neg hw,if_neg]
       ·exact ih2 _ he
       ·unfold isWrT;rw [ek,decide_eq_true_eq];exact fun hh=>hw ⟨hh.1,hh.2.2⟩
     constructor
     ·show (if h[k].1=4 then s.2++(lastS h key s.1 ⟨k,hk'⟩ h[k].2.1).toList else s.2)=_
      by_cases h4:h[k].1=4
      ·rw [if_pos h4,ih1,hl]
       have h3:¬ isWrT h h[k].2.1 key k=true:=by
        unfold isWrT;rw [ek,decide_eq_true_eq];rintro ⟨hh,_⟩;rw [h4] at hh;cases hh
       have:verOf h key k=lastN h h[k].2.1 key (k+1):=by
        unfold verOf
        rw [ek,if_pos ⟨h4,endL_upto he (by rw [ek]) (by rw [ek];exact Or.inl h4) hk'⟩]
        show _=la _ (k+1)
        rw [la,if_neg h3]
        rfl
       rw [← this]
       have e:List.filterMap (verOf h key) [k]=(verOf h key k).toList:=by cases hv:verOf h key k<;>simp [hv]
       rw [e]
      ·rw [if_neg h4,ih1]
       have:verOf h key k=none:=by
        unfold verOf
        rw [if_neg]
        rintro ⟨h1,_⟩
        rw [ek] at h1
        exact h4 h1
       simp [this]
     ·intro t ht
      by_cases hne:h[k].2.1=t
      ·subst hne;exact hl
      ·have h0:endL h t k=none:=(endL_none h t k).2 (fun j hj=>(endL_none h t (k+1)).1 ht j (by omega))
       show lastS h key s.1 ⟨k,hk'⟩ t=la _ (k+1)
       rw [la,if_neg]
       ·unfold lastS
        simp only
        by_cases hw:h[k].1=3∧h[k].2.2.1=key
        ·rw [if_pos hw]
         unfold updN
         rw [if_neg (fun e=>hne e.symm)]
         exact ih2 t h0
        ·rw [if_neg hw];exact ih2 t h0
       ·unfold isWrT
        rw [ek,decide_eq_true_eq]
        exact fun hh=>hne hh.2.1
theorem vers_liv (h:List Ev) (key:List UInt8):(versF h key (livP h)).2=versL h key:=by
 have:=(vers_take h key h.length (Nat.le_refl _)).1
 rwa [List.take_of_length_le (by rw [List.length_finRange];exact Nat.le_refl _)] at this
open Go.RowKit Go.Shelf Go.Maps
attribute [local go_sem] Oper.semAt_some ba_size
def oIf (f:Int→Option Nat):Int→Option Int:=fun t=>(f t).map Int.ofNat
theorem oIf_upd (f:Int→Option Nat) (t:Int) (k:Nat):updI (oIf f) t (k:Int)=oIf (updN f t k):=by
 funext u
 unfold updI oIf updN
 by_cases h:u=t
 ·rw [if_pos h,if_pos h];rfl
 ·rw [if_neg h,if_neg h]
theorem versF_few (h:List Ev) (key:List UInt8):∀ (pre:List (Fin h.length)) (s:(Int→Option Nat) × List Nat),(pre.foldl (versS h key) s).2.length≤s.2.length+pre.length
 | [],s=>Nat.le_refl _
 | x::pre,s=>by
   have h1:=versF_few h key pre (versS h key s x)
   have h2:=versF_len h key x s
   rw [List.foldl_cons,List.length_cons]
   omega
theorem versF_le (h:List Ev) (key:List UInt8) (pre:List (Fin h.length)):(versF h key pre).2.length≤pre.length:=by have:=versF_few h key pre (fun _=>none,[]);simpa [versF] using this
theorem recI_snoc (L:List Int) (x:Int):recV intV (L++[x])=recV intV L++[.int .i64 x]:=by rw [recV_append];rfl
def ZInv (w:World) (key:List UInt8) (sl:Value) (h:List Ev) (pre:List (Fin h.length)) (W:World):Prop :=
 ∃ v,ZSt w 9 (.string ⟨key.toArray⟩) 23 3 1 sl v pre.length (oIf (versF h key pre).1) ((versF h key pre).2.map Int.ofNat).length (recV intV ((versF h key pre).2.map Int.ofNat)) W
set_option maxHeartbeats 4000000 in
theorem pvers8_any (h:List Ev) (v:Value) (w:World) (key:List UInt8) (hT:IsEvs w v h) (hG:∀ x∈h,goodE x) (hn:h.length≤300) :
 Calls Tryz.prog 94 #[v,.string ⟨key.toArray⟩] w fun e w'=>InRow w ((versL h key).map Int.ofNat) e w':=by
 have hT0:=hT
 obtain ⟨a,cap,rfl,h1,h2,h3,HC⟩:=hT.some_at
 clear HC hT
 have hmm:=@run_makeMap Tryz.prog
 obtain ⟨i0,hi,hz0,hz1,hz2⟩:=info_parts int_info
 refine (callsIn_wide (n:=8)).1 ?_
 refine callsIn_of_wp_marks Tryz.func94 rfl trivial ?_ rfl
 simp only [Tryz.ntmps94,List.size_toArray,List.length_cons,List.length_nil,Nat.reduceAdd,Nat.reduceSub,Array.replicate_succ,Array.replicate_zero,List.push_toArray,List.append_toArray,List.nil_append,List.cons_append]
 gi_wp2_with ((try refine ⟨trivial,?_⟩);gi_at_call 80;refine (callsIn_wide.2 (pliving_any _ _ _ _)).mono ?_;rintro e w2 ⟨rfl,rfl⟩)
 have hS0:ZSt w 9 (.string ⟨key.toArray⟩) 23 3 1 (.slice a h.length cap) (.slice none 0 0) 0 (oIf (fun _=>none)) 0 [] (((((w.alloc (.cells #[.string ⟨key.toArray⟩] 9)).alloc (.cells #[.slice none 0 0] 23)).alloc (.map #[] 0)).alloc (.cells #[.map (some (w.heap.size+1+1))] 61)).alloc (.cells #[.slice a h.length cap] 22)):=by
  have b0:=((((Boxed.new w 9 (.string ⟨key.toArray⟩)).alloc (.cells #[.slice none 0 0] 23)).alloc (.map #[] 0)).alloc (.cells #[.map (some (w.heap.size+1+1))] 61)).alloc (.cells #[.slice a h.length cap] 22)
  have b1:=(((Boxed.new (w.alloc (.cells #[.string ⟨key.toArray⟩] 9)) 23 (.slice none 0 0)).alloc (.map #[] 0)).alloc (.cells #[.map (some (w.heap.size+1+1))] 61)).alloc (.cells #[.slice a h.length cap] 22)
  have b2:=((IMap.made ((w.alloc (.cells #[.string ⟨key.toArray⟩] 9)).alloc (.cells #[.slice none 0 0] 23))).kept (World.grownBy_alloc _ (.cells #[.map (some (w.heap.size+1+1))] 61) none) (by simp)).kept (World.grownBy_alloc _ (.cells #[.slice a h.length cap] 22) none) (by simp)
  have b3:=(Boxed.new (((w.alloc (.cells #[.string ⟨key.toArray⟩] 9)).alloc (.cells #[.slice none 0 0] 23)).alloc (.map #[] 0)) 61 (.map (some (w.heap.size+1+1)))).alloc (.cells #[.slice a h.length cap] 22)
  have b4:=Boxed.new ((((w.alloc (.cells #[.string ⟨key.toArray⟩] 9)).alloc (.cells #[.slice none 0 0] 23)).alloc (.map #[] 0)).alloc (.cells #[.map (some (w.heap.size+1+1))] 61)) 22 (.slice a h.length cap)
  simp only [World.size_alloc] at b0 b1 b2 b3 b4
  exact ⟨(((((Below.refl _ w).alloc (Nat.le_refl _) _).alloc (by simp) _).alloc (by simp;omega) _).alloc (by simp;omega) _).alloc (by simp;omega) _,by simp,b0,b1,b2,b3,b4,World.ownsRow_nil _ _ _ _,fun g hg=>by simp [Value.ownBlock] at hg⟩
 obtain ⟨W0,hW0⟩:∃ W0,(((((w.alloc (.cells #[.string ⟨key.toArray⟩] 9)).alloc (.cells #[.slice none 0 0] 23)).alloc (.map #[] 0)).alloc (.cells #[.map (some (w.heap.size+1+1))] 61)).alloc (.cells #[.slice a h.length cap] 22))=W0:=⟨_,rfl⟩
 have sW0:W0.heap.size=w.heap.size+1+1+1+1+1:=by rw [← hW0];simp
 change Code.wpIn _ _ _ _ _ _ (((((w.alloc (.cells #[.string ⟨key.toArray⟩] 9)).alloc (.cells #[.slice none 0 0] 23)).alloc (.map #[] 0)).alloc (.cells #[.map (some (w.heap.size+1+1))] 61)).alloc (.cells #[.slice a h.length cap] 22))
 rw [hW0] at hS0 ⊢
 clear hW0
 refine rangeFunc_C rfl (by omega) (gf:=104) (lb:=#[.pointer (some ⟨w.heap.size+1+1+1+1,0,none⟩)]) rfl trivial (enters_of Tryz.func104 (by kernel_rfl) rfl)
  (Kp:=KpL w.heap.size (w.heap.size+1+1+1+1) (w.heap.size+1+1+1+1+1+1+1)) (H:=w.heap.size+1+1+1+1+1+1+1+1+1+1+1) (S:=fun ys=>ys=livP h) (Sp:=fun pre=>pre <+: livP h) (N:=h.length)
  (fun V hV hs=>by
   have:=living8_stops h w a cap hT0 hG hn (w.heap.size+1+1+1+1) (8 - 1) (W0.heap.size+1) W0 V hS0.below hS0.be hV
   rw [hs,sW0] at this
   rw [sW0]
   exact this) (fun h k=>KpL.trans h k) (fun W o o' h=>by rw [sW0] at h ⊢;exact kpL_put (by omega) (by omega) (by omega) o h o') (fun _=>rfl)
  (ZInv w key (.slice a h.length cap) h) (fun _ _ _=>False)
  (fun s X Y row ⟨v,hs⟩ hg hr=>⟨v,hs.turn hg (fun r e=>⟨by have:=(hr r e).1;omega,(hr r e).2⟩)⟩)
  (fun _=>ownFrom_false _)
  ⟨_,hS0⟩
  (fun x a' W=>∃ Bx,w.heap.size+1+1+1+1+1+1+1+1+1+1+1≤Bx∧SBox W Bx 49 #[.int .i64 h[x.val].1,.int .i64 h[x.val].2.1,.string ⟨h[x.val].2.2.1.toArray⟩,.string ⟨h[x.val].2.2.2.toArray⟩]∧a'={ tmps:=#[.slice a h.length cap,.string ⟨key.toArray⟩,undef,.pointer (some ⟨w.heap.size,0,none⟩),.slice none 0 0,.pointer (some ⟨w.heap.size+1,0,none⟩),.pointer (some ⟨w.heap.size+1+1+1,0,none⟩),.int .i64 (x.val:Int),.pointer (some ⟨Bx,0,none⟩),undef,undef,.map (some (w.heap.size+1+1)),.slice a h.length cap,livingF (w.heap.size+1+1+1+1),.int .i64 (x.val:Int),evW h[x.val],undef,undef,undef,undef,undef,undef,undef,undef,undef,undef,undef,undef,undef,undef,undef,undef,undef,undef,undef,undef,undef,undef,undef,undef,undef],defers:=[] })
  (fun x a' _ A B row hs hg hr=>by
   obtain ⟨Bx,h1,h2,h4⟩:=hs
   exact ⟨Bx,h1,block_kept h2 hg (fun r e=>(hr r e).2),h4⟩)
  ?assign ?body ?done ?stop
 case assign =>
  rintro l pre x W K ⟨v,hS⟩ hH hK
  have hsz:=hS.size
  have b1:=(Below.refl W.heap.size W).alloc (Nat.le_refl _) (.cells #[.int .i64 h[x.val].1,.int .i64 h[x.val].2.1,.string ⟨h[x.val].2.2.1.toArray⟩,.string ⟨h[x.val].2.2.2.toArray⟩] 49)
  gi_wp2
  refine hK _ _ ((KeepsOthers.alloc _ _).from _) (kpL_bel (by omega) (by omega) (by omega) b1) ⟨v,hS.bel b1⟩ ⟨W.heap.size,by omega,SBox.new W _ _,rfl⟩
 case body =>
  rintro l pre x a' W ⟨v,hS⟩ hH ⟨Bx,hBx,hblk,rfl⟩ hlt
  have HW0:Hid (W0.heap.size=w.heap.size+1+1+1+1+1):=sW0
  clear sW0 hS0
  have hsz:=hS.size
  have hxn:=x.isLt
  have hgx:=hG h[x.val] (List.getElem_mem _)
  obtain ⟨⟨y0,y1,y2,y3⟩,hy⟩:∃ y,h[x.val]=y:=⟨_,rfl⟩
  have HV:Hid (versF h key (pre++[x])=versS h key (versF h key pre) x):=versF_snoc h key pre x
  have HLe:=versF_le h key pre
  obtain ⟨s,hs⟩:∃ s,versF h key pre=s:=⟨_,rfl⟩
  rw [hs] at hS HLe HV
  have HS:Hid (versS h key s x=(if y0=3∧y2=key then updN s.1 y1 x.val else s.1,if y0=4 then s.2++((if y0=3∧y2=key then updN s.1 y1 x.val else s.1) y1).toList else s.2)):=by
   show _=_
   unfold versS lastS
   rw [hy]
  clear hs
  rw [hy] at hblk hgx ⊢
  simp only at hblk hgx
  clear hy
  have ki:=key8i hgx.2.1
  clear hgx
  obtain ⟨i,hxi⟩:∃ i,x.val=i:=⟨_,rfl⟩
  rw [hxi] at hxn HS ⊢
  clear hxi
  have LX:Hid ((pre++[x]).length=pre.length+1):=by show _=_;simp
  have c0:=hS.b0.cell
  have q0:=hblk.cell 0 _ rfl
  have q1:=hblk.cell 1 _ rfl
  have q2:=hblk.cell 2 _ rfl
  have q3:=hblk.cell 3 _ rfl
  have C:=pwrites_any y0 y1 y2 y3 key W
  obtain ⟨s1,s2⟩:=s
  simp only at hS HLe HS
  by_cases hm:y0=3∧y2=key
  ·rw [decide_eq_true hm] at C
   have e4:(y0==4)=false:=by rw [hm.1];rfl
   have HR:Hid (versS h key (s1,s2) x=(updN s1 y1 i,s2)):=by
    show _=_
    rw [HS.out,if_pos hm,if_neg (by rw [hm.1];decide)]
   clear hm HS
   gi_wp2_with ((try refine ⟨trivial,?_⟩);gi_at_call 103;refine (CallsIn.inRound l (callsIn_wide.2 C)).mono ?_;clear C;rintro e W1 ⟨rfl,b1⟩;refine Hid.out ?_)
   have z1:=b1.size
   have hS1:=hS.bel b1
   have x1:=hblk.below b1
   have d1:=x1.cell 1 _ rfl
   have c3:=hS1.bb.cell
   obtain ⟨D1,hown1,hD1⟩:=hS1.bm
   clear c0 q0 q1 q2 q3
   refine Lib.hid ?_
   gi_wp2_with (gi_at_mapUpdate;refine wpListIn_mapUpdate_own _ rfl _ _ _ 61 rfl 3 3 law8i Tryz.underlying61 _ (w.heap.size+1+1) pre.length D1 rfl hown1 (by unfold maxLen;omega) _ _ _ rfl rfl ki _ [] (plainElem_int Tryz.underlying3 (WalkArith.wf_i64 (by omega))) ?_;intro W2 hown2 hg2;refine Hid.out ?_)
   have hS2:=hS1.map hg2 (IMap.put hD1 hown1.isMap y1 (i:Int) hown2)
   have x2:SBox W2 Bx 49 _:=(hg2.block Bx x1.lt (fun e=>by have:=Option.some.inj e;omega)).trans x1
   have z2:=hg2.size
   have KK:KeepsFrom W0.heap.size W W2:=by
    have hw0:=HW0.out
    exact ((keeps_of_below b1).from _).trans (KeepsFrom.of_grownBy hg2 (fun j e=>by cases e;omega))
   have KP:KpL w.heap.size (w.heap.size+1+1+1+1) (w.heap.size+1+1+1+1+1+1+1) W W2:=(kpL_bel (by omega) (by omega) (by omega) b1).trans (kpL_grown (by omega) (by omega) (by omega) hg2 (fun r e=>by cases e;omega))
   have HF:Hid (KeepsFrom W0.heap.size W W2∧KpL w.heap.size (w.heap.size+1+1+1+1) (w.heap.size+1+1+1+1+1+1+1) W W2∧ZInv w key (.slice a h.length cap) h (pre++[x]) W2):=by
    refine ⟨KK,KP,v,?_⟩
    rw [LX.out,HV.out,HR.out,← oIf_upd]
    exact hS2
   have d0:=x2.cell 0 _ rfl
   have d1:=x2.cell 1 _ rfl
   have c3:=hS2.bb.cell
   obtain ⟨D2,hown2,hD2⟩:=hS2.bm
   have hy1:=(hD2 y1).1
   have hu:updI (oIf s1) y1 (i:Int) y1=some (i:Int):=by unfold updI;rw [if_pos rfl]
   rw [hu] at hy1
   clear hS hS1 hS2 hD1 hD2 hown1 KK KP HR HV hu x1 x2
   refine Lib.hid ?_
   gi_wp2_with (gi_at_lookup;refine wpListIn_lookup_own_ok_int _ rfl _ _ 61 rfl 3 3 .i64 law8i Tryz.underlying61 Tryz.underlying3 (zero8i _) (w.heap.size+1+1) (pre.length+1) D2 rfl hown2 _ _ rfl ki ?_;rw [hy1];intro c hc hwc;clear hc hwc)
   exact HF.out
  ·rw [decide_eq_false hm] at C
   have HR:Hid (versS h key (s1,s2) x=(s1,if y0=4 then s2++(s1 y1).toList else s2)):=by
    show _=_
    rw [HS.out,if_neg hm]
   clear hm HS
   gi_wp2_with ((try refine ⟨trivial,?_⟩);gi_at_call 103;refine (CallsIn.inRound l (callsIn_wide.2 C)).mono ?_;clear C;rintro e W1 ⟨rfl,b1⟩;refine Hid.out ?_)
   have z1:=b1.size
   have hS1:=hS.bel b1
   have x1:=hblk.below b1
   have d0:=x1.cell 0 _ rfl
   have d1:=x1.cell 1 _ rfl
   have c3:=hS1.bb.cell
   have cv:=hS1.bv.cell
   have gv:=hS1.bv.frozen
   obtain ⟨D1,hown1,hD1⟩:=hS1.bm
   have hy1:=(hD1 y1).1
   have KK:KeepsFrom W0.heap.size W W1:=(keeps_of_below b1).from _
   have KP:KpL w.heap.size (w.heap.size+1+1+1+1) (w.heap.size+1+1+1+1+1+1+1) W W1:=kpL_bel (by omega) (by omega) (by omega) b1
   clear c0 q0 q1 q2 q3 hS
   cases hf:s1 y1 with
   | none =>
     have hy2:Maps.has D1 (.int .i64 y1)=false:=by rw [hy1];unfold oIf;rw [hf];rfl
     have HF:Hid (KeepsFrom W0.heap.size W W1∧KpL w.heap.size (w.heap.size+1+1+1+1) (w.heap.size+1+1+1+1+1+1+1) W W1∧ZInv w key (.slice a h.length cap) h (pre++[x]) W1):=by
      refine ⟨KK,KP,v,?_⟩
      have e:(if y0=4 then s2++(s1 y1).toList else s2)=s2:=by rw [hf];simp
      rw [LX.out,HV.out,HR.out,e]
      exact hS1.keep (Nat.le_succ _) rfl
     clear hS1 hD1 KK KP HR HV x1 hy1 hf
     refine Lib.hid ?_
     gi_wp2_with (gi_at_lookup;refine wpListIn_lookup_own_ok_int _ rfl _ _ 61 rfl 3 3 .i64 law8i Tryz.underlying61 Tryz.underlying3 (zero8i _) (w.heap.size+1+1) pre.length D1 rfl hown1 _ _ rfl ki ?_;rw [hy2];intro c hc hwc;clear hc hwc)
     exact HF.out
   | some q =>
     have hy2:Maps.has D1 (.int .i64 y1)=true:=by rw [hy1];unfold oIf;rw [hf];rfl
     have hat1:=(hD1 y1).2 (q:Int) (by unfold oIf;rw [hf];rfl)
     by_cases d4:y0=4
     ·have e4:(y0==4)=true:=by rw [d4];rfl
      have HQ:Hid ((if y0=4 then s2++(s1 y1).toList else s2)=s2++[q]):=by show _=_;rw [hf,if_pos d4];rfl
      have hrow:=hS1.row
      clear hD1 hy1 hf d4
      refine Lib.hid ?_
      gi_wp2_with (first
       | (gi_at_lookup;refine wpListIn_lookup_own_ok_int _ rfl _ _ 61 rfl 3 3 .i64 law8i Tryz.underlying61 Tryz.underlying3 (zero8i _) (w.heap.size+1+1) pre.length D1 rfl hown1 _ _ rfl ki ?_;rw [hy2];intro c hc hwc;obtain rfl:c=(q:Int):=(by have:=hc.symm.trans hat1;simpa using this);clear hc hwc)
       | (gi_at_builtin;refine wpListIn_append_own_at _ rfl _ _ 23 rfl w.heap.size 3 i0 (.int .i64 0) 1 8 Tryz.underlying23 hi hz0 hz1 hz2 rfl (by decide) _ _ _ rfl (hrow.alloc _) ⟨W1.heap.size,0,none⟩ 1 1 [.int .i64 (q:Int)] rfl rfl ?a1 ?a2 ?a3 ?a4 ?a5 ?_))
      case a1=>intro j u hj;match j,hj with
       | 0,hj=>simp at hj;subst hj;simp [Addr.add]
      case a2=>intro u hu;simp at hu;subst hu;rfl
      case a3=>simp;unfold maxLen;omega
      case a4=>simp;omega
      case a5=>simp;omega
      intro v' W2 hown2 hg2 _ hat2
      obtain ⟨g',cap',rfl⟩:=ownsRow_succ hown2
      have hS2:=hS1.app (by omega) hown2 hg2 hat2
      have cv2:=((hS1.bv.alloc (.cells #[.int .i64 (q:Int)] 3)).kept hg2 (fun e=>by have:=hS1.far _ e.symm;omega)).cell
      have gv2:=((hS1.bv.alloc (.cells #[.int .i64 (q:Int)] 3)).kept hg2 (fun e=>by have:=hS1.far _ e.symm;omega)).frozen
      have z2:=hg2.size
      rw [World.size_alloc] at z2
      have KK2:=(KK.trans ((KeepsOthers.alloc W1 (.cells #[.int .i64 (q:Int)] 3)).from _)).trans ((keeps_row (hrow.alloc (.cells #[.int .i64 (q:Int)] 3)) hg2).from _)
      have KP2:=(KP.trans (kpL_bel (by omega) (by omega) (by omega) ((Below.refl W1.heap.size W1).alloc (Nat.le_refl _) (.cells #[.int .i64 (q:Int)] 3)))).trans (kpL_grown (by simp;omega) (by simp;omega) (by simp;omega) hg2 (fun r e=>by have:=hS1.far r e;omega))
      have HF:Hid (KeepsFrom W0.heap.size W (W2.setCell ⟨w.heap.size+1,0,none⟩ (.slice (some ⟨g',0,none⟩) (s2.length+1) cap'))∧KpL w.heap.size (w.heap.size+1+1+1+1) (w.heap.size+1+1+1+1+1+1+1) W (W2.setCell ⟨w.heap.size+1,0,none⟩ (.slice (some ⟨g',0,none⟩) (s2.length+1) cap'))∧ZInv w key (.slice a h.length cap) h (pre++[x]) (W2.setCell ⟨w.heap.size+1,0,none⟩ (.slice (some ⟨g',0,none⟩) (s2.length+1) cap'))):=by
       refine ⟨KK2.trans ((KeepsOthers.setCell _ _ _).from _),KP2.trans (kpL_grown (by omega) (by omega) (by omega) (grownBy_setCell' _ _ _) (fun r e=>by cases e;omega)),.slice (some ⟨g',0,none⟩) (s2.length+1) cap',?_⟩
       rw [LX.out,HV.out,HR.out,HQ.out]
       have hS3:=hS2.keep (m':=pre.length+1) (Nat.le_succ _) rfl
       simp only [List.map_append,List.map_cons,List.map_nil]
       rw [recI_snoc,List.length_append]
       simpa using hS3
      clear hS1 hS2 hown1 hown2 KK KP KK2 KP2 HR HV HQ x1 hrow hat1 hat2
      gi_wp2
      exact HF.out
     ·have e4:(y0==4)=false:=beq_eq_false_iff_ne.2 d4
      have HF:Hid (KeepsFrom W0.heap.size W W1∧KpL w.heap.size (w.heap.size+1+1+1+1) (w.heap.size+1+1+1+1+1+1+1) W W1∧ZInv w key (.slice a h.length cap) h (pre++[x]) W1):=by
       refine ⟨KK,KP,v,?_⟩
       rw [LX.out,HV.out,HR.out,if_neg d4]
       exact hS1.keep (Nat.le_succ _) rfl
      clear hS1 hD1 KK KP HR HV x1 hy1 hf d4
      refine Lib.hid ?_
      gi_wp2_with (gi_at_lookup;refine wpListIn_lookup_own_ok_int _ rfl _ _ 61 rfl 3 3 .i64 law8i Tryz.underlying61 Tryz.underlying3 (zero8i _) (w.heap.size+1+1) pre.length D1 rfl hown1 _ _ rfl ki ?_;rw [hy2];intro c hc hwc;clear hc hwc)
      exact HF.out
 case done =>
  rintro D ys W hD rfl ⟨v,hS⟩ hK
  have HE:Hid ((versF h key (livP h)).2=versL h key):=vers_liv h key
  have c1:=hS.bv.cell
  have HD:Hid (w.heap.size+1+1+1+1+1≤D):=by rw [sW0] at hD;exact hD
  clear sW0 hS0 hD
  gi_wp2
  refine ⟨by simp,.inl ⟨_,_,rfl,run_takeDeferred hK,?_⟩⟩
  refine ⟨_,results_tmp rfl _ _ _,_,rfl,hS.below.trans (belowK_b (w:=w) (Nat.le_refl _) _ D _ _ (by have:=HD.out;omega) hK rfl rfl),?_⟩
  have hr:=hS.row
  rw [HE.out] at hr
  exact ownsRow_putObj hr _ hK rfl
 case stop =>
  rintro D c pre W hD hSp h hK
  exact h.elim
end Go.Proofs.YtdlcimfifkhllaaGreat
namespace Go.Proofs.YtdlcimfifkhllaaGreat
set_option maxRecDepth 100000
set_option linter.unusedVariables false
theorem outerI_nat (h:List Ev) (k:Nat):outerI h (k:Int)=outerB h k:=by
 unfold outerI
 rw [Int.toNat_natCast,decide_eq_true (by omega)]
 rfl
open Go.Shelf
def lays190_ren:Go.Shelf.Ren:=⟨fun | 190=>93 | 125=>89 | 258=>119 | 128=>117 | 129=>118 | 302=>128 | 303=>129 | 304=>130 | 305=>131 | 306=>132 | 307=>133 | 308=>134 | 309=>135 | 310=>136 | 333=>138 | 329=>123 | 330=>124 | 334=>139 | 335=>140 | 336=>141 | 344=>142 | n=>n,fun | 31=>100 | 9=>9 | 3=>3 | 46=>121 | 0=>0 | 51=>147 | 53=>149 | 4=>4 | 183=>140 | 182=>139 | 131=>113 | 5=>5 | 218=>152 | 222=>156 | 228=>163 | 229=>37 | n=>n,fun | n=>n⟩
theorem lays190:Go.Proofs.Lays.n190 Tryz.prog lays190_ren:={
 mixed:=by kernel_rfl
 f125:=Tryz.func89.trans (congrArg some (by kernel_rfl))
 f128:=Tryz.func117.trans (congrArg some (by kernel_rfl))
 f129:=Tryz.func118.trans (congrArg some (by kernel_rfl))
 f190:=Tryz.func93.trans (congrArg some (by kernel_rfl))
 f258:=Tryz.func119.trans (congrArg some (by kernel_rfl))
 f302:=Tryz.func128.trans (congrArg some (by kernel_rfl))
 f303:=Tryz.func129.trans (congrArg some (by kernel_rfl))
 f304:=Tryz.func130.trans (congrArg some (by kernel_rfl))
 f305:=Tryz.func131.trans (congrArg some (by kernel_rfl))
 f306:=Tryz.func132.trans (congrArg some (by kernel_rfl))
 f307:=Tryz.func133.trans (congrArg some (by kernel_rfl))
 f308:=Tryz.func134.trans (congrArg some (by kernel_rfl))
 f309:=Tryz.func135.trans (congrArg some (by kernel_rfl))
 f310:=Tryz.func136.trans (congrArg some (by kernel_rfl))
 f329:=Tryz.func123.trans (congrArg some (by kernel_rfl))
 f330:=Tryz.func124.trans (congrArg some (by kernel_rfl))
 f333:=Tryz.func138.trans (congrArg some (by kernel_rfl))
 f334:=Tryz.func139.trans (congrArg some (by kernel_rfl))
 f335:=Tryz.func140.trans (congrArg some (by kernel_rfl))
 f336:=Tryz.func141.trans (congrArg some (by kernel_rfl))
 f344:=Tryz.func142.trans (congrArg some (by kernel_rfl))
 t0:=Tryz.underlying0
 a0:=Tryz.isAgg0
 z0:=Tryz.sizeOf0
 v0:=Tryz.zeroValue0
 t3:=Tryz.underlying3
 a3:=Tryz.isAgg3
 z3:=Tryz.sizeOf3
 v3:=Tryz.zeroValue3
 t4:=Tryz.underlying4
 a4:=Tryz.isAgg4
 z4:=Tryz.sizeOf4
 v4:=Tryz.zeroValue4
 t5:=Tryz.underlying5
 a5:=Tryz.isAgg5
 z5:=Tryz.sizeOf5
 v5:=Tryz.zeroValue5
 t9:=Tryz.underlying9
 a9:=Tryz.isAgg9
 z9:=Tryz.sizeOf9
 v9:=Tryz.zeroValue9
 t31:=Tryz.underlying100
 a31:=Tryz.isAgg100
 z31:=Tryz.sizeOf100
 v31:=Tryz.zeroValue100
 t46:=Tryz.underlying121
 a46:=Tryz.isAgg121
 z46:=Tryz.sizeOf121
 v46:=Tryz.zeroValue121
 t51:=Tryz.underlying147
 a51:=Tryz.isAgg147
 z51:=Tryz.sizeOf147
 v51:=Tryz.zeroValue147
 t53:=Tryz.underlying149
 a53:=Tryz.isAgg149
 z53:=Tryz.sizeOf149
 v53:=Tryz.zeroValue149
 t131:=Tryz.underlying113
 a131:=Tryz.isAgg113
 z131:=Tryz.sizeOf113
 v131:=Tryz.zeroValue113
 t182:=Tryz.underlying139
 a182:=Tryz.isAgg139
 z182:=Tryz.sizeOf139
 v182:=Tryz.zeroValue139
 t183:=Tryz.underlying140
 a183:=Tryz.isAgg140
 z183:=Tryz.sizeOf140
 v183:=Tryz.zeroValue140
 t218:=Tryz.underlying152
 a218:=Tryz.isAgg152
 z218:=Tryz.sizeOf152
 v218:=Tryz.zeroValue152
 t222:=Tryz.underlying156
 a222:=Tryz.isAgg156
 z222:=Tryz.sizeOf156
 v222:=Tryz.zeroValue156
 t228:=Tryz.underlying163
 a228:=Tryz.isAgg163
 z228:=Tryz.sizeOf163
 v228:=Tryz.zeroValue163
 t229:=Tryz.underlying37
 a229:=Tryz.isAgg37
 z229:=Tryz.sizeOf37
 v229:=Tryz.zeroValue37 }
theorem psort_any (blk off cap:Nat) (ss:List (List UInt8)) (w:World) (hH:Go.Sort.Holds encStr w blk off ss.toArray) (hblk:blk < w.heap.size) (hsz:ss.length < 4611686018427387904) :
 Calls Tryz.prog 93 #[.slice (some ⟨blk,off,none⟩) ss.length cap] w fun e w' =>
  e=.returned (.tuple #[])∧∃ n os,w'=Go.Sort.grow (Go.Sort.putRow encStr (Go.Sort.ahead w n) blk off (ss.mergeSort fun x y=>decide (x≤y)).toArray) os :=
 Any.slices_Sort_string lays190 blk off cap ss w hH hblk hsz
theorem psort_none (p:Option Addr) (cap:Nat) (w:World):Calls Tryz.prog 93 #[.slice p 0 cap] w fun e w'=>e=.returned (.tuple #[])∧w'=w :=
 Any.slices_Sort_string_none lays190 p cap w
end Go.Proofs.YtdlcimfifkhllaaGreat
namespace Go.Proofs.YtdlcimfifkhllaaGreat
set_option maxRecDepth 100000
open Go.RowKit
def TxsRow (w:World) (K:List (List UInt8)) (e:Ending) (w':World):Prop:=∃ v,e=.returned v∧Below w.heap.size w w'∧w'.ownsRow w.heap.size 9 1 v K.length (strV K)
open Go.RowKit Go.Maps
set_option linter.unusedVariables false
attribute [local go_sem] ba_size
def StP (W:World) (L':List SVt) (L:List Stp):Prop:=L'.length=L.length∧∀ (i:Nat) x s,L'[i]?=some x→L[i]?=some s→x.1=s.1∧x.2.1=s.2.1∧(∃ B,W.ownsRow B 71 5 x.2.2 s.2.2.length (recV edV s.2.2))∧s.2.2.length≤2
theorem StP.nil (W:World):StP W [] []:=⟨rfl,fun i x s h=>by simp at h⟩
theorem StP.of {W:World} {L':List SVt} {L:List Stp} (h:StP W L' L):StOf W L' L :=
 ⟨h.1,fun i x s hx hs=>by obtain ⟨a,b,⟨B,c⟩,d⟩:=h.2 i x s hx hs;exact ⟨a,b,IsRec.own edV_len (by omega) c (by omega)⟩⟩
theorem StP.below {W W':World} {L':List SVt} {L:List Stp} (h:StP W L' L) (hb:Below W.heap.size W W'):StP W' L' L :=
 ⟨h.1,fun i x s hx hs=>by obtain ⟨a,b,⟨B,c⟩,d⟩:=h.2 i x s hx hs;exact ⟨a,b,⟨B,owns_below c hb⟩,d⟩⟩
theorem owns_kept10 {W W':World} {B e k n B' e' k' n':Nat} {v r:Value} {xs ys:List Value} (h:W.ownsRow B e k v n xs) (hr:W.ownsRow B' e' k' r n' ys) (hte:e≠e') (hg:W.grownBy W' r.ownBlock):W'.ownsRow B e k v n xs:=by
 refine h.kept hg ?_
 rcases h.2 with ⟨rfl,_⟩ | ⟨g,cap,cur,rfl,_,hgb,_⟩
 ·exact .inl rfl
 ·exact .inr (fun e=>block_not_row hgb hte hr e)
theorem StP.push {W W':World} {L':List SVt} {L:List Stp} {B B' n:Nat} {r v:Value} {xs:List Value} (h:StP W L' L) (hrow:W.ownsRow B 63 3 r n xs) (a b:Int) (es:List Ed) (h2:es.length≤2) (hv:W.ownsRow B' 71 5 v es.length (recV edV es)) (hg:W.grownBy W' r.ownBlock):StP W' (L'++[(a,b,v)]) (L++[(a,b,es)]):=by
 refine ⟨by simp [h.1],fun i x s hx hs=>?_⟩
 rcases Nat.lt_or_ge i L'.length with hi | hi
 ·rw [List.getElem?_append_left hi] at hx
  rw [List.getElem?_append_left (by rw [← h.1];exact hi)] at hs
  obtain ⟨p,q,⟨B,c⟩,d⟩:=h.2 i x s hx hs
  exact ⟨p,q,⟨B,owns_kept10 c hrow (by decide) hg⟩,d⟩
 ·rw [List.getElem?_append_right hi] at hx
  rw [List.getElem?_append_right (by rw [← h.1];exact hi)] at hs
  rw [h.1] at hx
  rcases Nat.eq_zero_or_pos (i - L.length) with h0 | h0
  ·rw [h0] at hx hs
   simp only [List.getElem?_cons_zero,Option.some.injEq] at hx hs
   subst hx hs
   exact ⟨rfl,rfl,⟨B',owns_kept10 hv hrow (by decide) hg⟩,h2⟩
  ·rw [List.getElem?_eq_none (by simp;omega)] at hx
   cases hx
set_option maxHeartbeats 4000000 in
theorem pserial_any (l:List Ed) (v:Value) (w:World) (hT:IsEds w v l) (hle:l.length≤1000) :
 Calls Tryz.prog 60 #[v] w fun e w'=>StRow 63 w (stepsL 1 l) e w':=by
 obtain ⟨a,cap,rfl,h1,h2,h3,HC⟩:=hT.reads
 obtain ⟨n,hn⟩:∃ n,l.length=n:=⟨_,rfl⟩
 have HN:Hid (l.length=n):=hn
 rw [hn] at h1 h3 hle ⊢
 clear hT hn
 go_enter Tryz.func60,Tryz.ntmps60
 go_wp2_with fail
 go_loopw [3,8] (fun r i wr=>∃ (k c:Nat) (L':List SVt),k≤n∧c≤k∧i=.int .i64 k∧Hid (L'.length=c)∧Hid (StP wr L' (sTo 1 l k))∧Below w.heap.size w wr∧wr.ownsRow w.heap.size 63 3 r c (recV stV L')) (fun _ i _=>n - (intOf i).toNat)
 case atStart=>exact ⟨0,0,[],Nat.zero_le _,by omega,rfl,rfl,StP.nil _,Below.refl _ _,World.ownsRow_nil _ _ _ _⟩
 case round =>
  obtain ⟨k,c,L',hk,hc,rfl,HL,HS,hbw,hrow⟩:=hrel
  by_cases hlt:k < n
  ·have hk1:Hid (k < l.length):=by show k < _;rw [HN.out];exact hlt
   have j0:(k:Int) < (n:Int):=by omega
   obtain ⟨bb,off,rfl,HQ⟩:=HC.out (by have:=hk1.out;omega)
   obtain ⟨⟨e0,e1,e2,e3,e4⟩,he⟩:∃ x,l[k]'hk1.out=x:=⟨_,rfl⟩
   have HE:Hid (l[k]'hk1.out=(e0,e1,e2,e3,e4)):=he
   have HNx:Hid (sTo 1 l (k+1)=sTo 1 l k++stepOf 1 l (e0,e1,e2,e3,e4)):=by show _=_;rw [sTo_next 1 l k hk1.out,he]
   obtain ⟨x0,x1,x2,x3,x4⟩:=HQ.out k hk1.out _ hbw
   rw [he] at x0 x1 x2 x3 x4
   simp only at x0 x1 x2 x3 x4
   clear he
   have XE:=SBox.new wr 71 #[.int .i64 e0,.int .i64 e1,.int .i64 e2,.int .i64 e3,.int .i64 e4]
   have BE:=hbw.alloc hbw.size (.cells #[.int .i64 e0,.int .i64 e1,.int .i64 e2,.int .i64 e3,.int .i64 e4] 71)
   have hrowE:=hrow.alloc (.cells #[.int .i64 e0,.int .i64 e1,.int .i64 e2,.int .i64 e3,.int .i64 e4] 71)
   have y0:=XE.cell 0 _ rfl
   have y1:=XE.cell 1 _ rfl
   have y2:=XE.cell 2 _ rfl
   have y3:=XE.cell 3 _ rfl
   have y4:=XE.cell 4 _ rfl
   have HSE:Hid (StP (wr.alloc (.cells #[.int .i64 e0,.int .i64 e1,.int .i64 e2,.int .i64 e3,.int .i64 e4] 71)) L' (sTo 1 l k)):=HS.out.below ((Below.refl _ _).alloc (Nat.le_refl _) _)
   obtain ⟨_,_,rfl⟩:=own_shape hrow
   have HO:Hid (stepOf 1 l (e0,e1,e2,e3,e4)=[(e1,e2,[(e0,e1,e2,e3,e4)])]):=stepOf_1 l _
   go_wp2_with fail
   refine (palone_any e0 e1 e2 e3 e4 _).mono ?_
   rintro e1' w1 ⟨ad,c1,rfl,b1,ho1⟩
   have hs1:=HSE.out.below b1
   have hr1:=owns_below hrowE b1
   have B1:=bel_trans BE b1
   go_wp2_with fail
   refine (pbhS_any _ c _ e1 e2 ad 1 c1 w.heap.size _ hr1 (by have:=B1.size;omega) (by omega)).mono ?_
   rintro e2' w3 ⟨r3,rfl,hown3,hg3,hat3⟩
   have hs3:=hs1.push hr1 (e1) (e2) [(e0,e1,e2,e3,e4)] (by simp) ho1 hg3
   have B3:Below w.heap.size w w3:=B1.grown hg3 (by have:=B1.size;omega) (fun j hj=>own_far hr1 j hj)
   go_wp2_with fail
   refine ⟨⟨k+1,c+1,L'++[(e1,e2,.slice ad 1 c1)],by omega,by omega,by first | go_num | simp,by show _=_;rw [List.length_append,HL.out];rfl,by show StP _ _ _;rw [HNx.out,HO.out];exact hs3,B3,by rw [recS_snoc];exact hown3⟩,by simp [intOf];omega⟩
  ·obtain rfl:k=n:=by omega
   have jq:¬ (k:Int) < (k:Int):=by omega
   go_wp2_with fail
   go_ret
   have e:sTo 1 l k=stepsL 1 l:=by rw [← HN.out,sTo_all]
   have hs:=HS.out
   rw [e] at hs
   refine ⟨_,L',rfl,hbw,?_,hs.of⟩
   rw [HL.out]
   exact hrow
set_option maxHeartbeats 4000000 in
theorem psnap_any (l:List Ed) (v:Value) (w:World) (hT:IsEds w v l) (hle:l.length≤1000) :
 Calls Tryz.prog 61 #[v] w fun e w'=>StRow 63 w (stepsL 2 l) e w':=by
 obtain ⟨a,cap,rfl,h1,h2,h3,HC⟩:=hT.reads
 obtain ⟨n,hn⟩:∃ n,l.length=n:=⟨_,rfl⟩
 have HN:Hid (l.length=n):=hn
 rw [hn] at h1 h3 hle ⊢
 clear hT hn
 go_enter Tryz.func61,Tryz.ntmps61
 go_wp2_with fail
 go_loopw [3,10] (fun r i wr=>∃ (k c:Nat) (L':List SVt),k≤n∧c≤k*1001∧i=.int .i64 k∧Hid (L'.length=c)∧Hid (StP wr L' (sTo 2 l k))∧Below w.heap.size w wr∧wr.ownsRow w.heap.size 63 3 r c (recV stV L')) (fun _ i _=>n - (intOf i).toNat)
 case atStart=>exact ⟨0,0,[],Nat.zero_le _,by omega,rfl,rfl,StP.nil _,Below.refl _ _,World.ownsRow_nil _ _ _ _⟩
 case round =>
  obtain ⟨wA,rfl⟩:∃ wA,wA=wr:=⟨_,rfl⟩
  obtain ⟨k,c,L',hk,hc,rfl,HL,HS,hbw,hrow⟩:=hrel
  by_cases hlt:k < n
  ·have hk1:Hid (k < l.length):=by show k < _;rw [HN.out];exact hlt
   have j0:(k:Int) < (n:Int):=by omega
   obtain ⟨bb,off,rfl,HQ⟩:=HC.out (by have:=hk1.out;omega)
   obtain ⟨⟨e0,e1,e2,e3,e4⟩,he⟩:∃ x,l[k]'hk1.out=x:=⟨_,rfl⟩
   have HE:Hid (l[k]'hk1.out=(e0,e1,e2,e3,e4)):=he
   have HNx:Hid (sTo 2 l (k+1)=sTo 2 l k++stepOf 2 l (e0,e1,e2,e3,e4)):=by show _=_;rw [sTo_next 2 l k hk1.out,he]
   obtain ⟨x0,x1,x2,x3,x4⟩:=HQ.out k hk1.out _ hbw
   rw [he] at x0 x1 x2 x3 x4
   simp only at x0 x1 x2 x3 x4
   clear he
   have XE:=SBox.new wA 71 #[.int .i64 e0,.int .i64 e1,.int .i64 e2,.int .i64 e3,.int .i64 e4]
   have BE:=hbw.alloc hbw.size (.cells #[.int .i64 e0,.int .i64 e1,.int .i64 e2,.int .i64 e3,.int .i64 e4] 71)
   have hrowE:=hrow.alloc (.cells #[.int .i64 e0,.int .i64 e1,.int .i64 e2,.int .i64 e3,.int .i64 e4] 71)
   have y0:=XE.cell 0 _ rfl
   have y1:=XE.cell 1 _ rfl
   have y2:=XE.cell 2 _ rfl
   have y3:=XE.cell 3 _ rfl
   have y4:=XE.cell 4 _ rfl
   have HSE:Hid (StP (wA.alloc (.cells #[.int .i64 e0,.int .i64 e1,.int .i64 e2,.int .i64 e3,.int .i64 e4] 71)) L' (sTo 2 l k)):=HS.out.below ((Below.refl _ _).alloc (Nat.le_refl _) _)
   obtain ⟨_,_,rfl⟩:=own_shape hrow
   by_cases d3:e0=3
   ·have HO:Hid (stepOf 2 l (e0,e1,e2,e3,e4)=[]):=stepOf_23 l _ d3
    have z0:(e0==3)=true:=by rw [d3];rfl
    clear d3
    go_wp2_with fail
    refine ⟨⟨k+1,c,L',by omega,by omega,by first | go_num | simp,HL,by show StP _ _ _;rw [HNx.out,HO.out,List.append_nil];exact HSE.out,BE,hrowE⟩,by simp [intOf];omega⟩
   ·have z0:(e0==3)=false:=beq_eq_false_iff_ne.2 d3
    have HO:Hid (stepOf 2 l (e0,e1,e2,e3,e4)=(e1,e2,[(e0,e1,e2,e3,e4)])::sIn l (e0,e1,e2,e3,e4) n):=by show _=_;rw [stepOf_2 l _ d3,← HN.out,sIn_all];rfl
    clear d3
    go_wp2_with fail
    refine (palone_any e0 e1 e2 e3 e4 _).mono ?_
    rintro e1' w1 ⟨ad,c1,rfl,b1,ho1⟩
    have hs1:=HSE.out.below b1
    have hr1:=owns_below hrowE b1
    have B1:=bel_trans BE b1
    go_wp2_with fail
    refine (pbhS_any _ c _ e1 e2 ad 1 c1 w.heap.size _ hr1 (by have:=B1.size;omega) (by omega)).mono ?_
    rintro e2' w3 ⟨r3,rfl,hown3,hg3,hat3⟩
    have hs3:=hs1.push hr1 (e1) (e2) [(e0,e1,e2,e3,e4)] (by simp) ho1 hg3
    have B3:Below w.heap.size w w3:=B1.grown hg3 (by have:=B1.size;omega) (fun j hj=>own_far hr1 j hj)
    have X3:SBox w3 wA.heap.size 71 #[.int .i64 e0,.int .i64 e1,.int .i64 e2,.int .i64 e3,.int .i64 e4]:=(hg3.block _ (XE.below b1).lt (block_not_row (XE.below b1) (by decide) hr1)).trans (XE.below b1)
    have hL3:Hid ((L'++[((e1,e2,.slice ad 1 c1):SVt)]).length=c+1):=by show _=_;rw [List.length_append,HL.out];rfl
    have hs4:StP w3 (L'++[(e1,e2,.slice ad 1 c1)]) (sTo 2 l k++((e1,e2,[(e0,e1,e2,e3,e4)])::sIn l (e0,e1,e2,e3,e4) 0)):=hs3
    have hown4:w3.ownsRow w.heap.size 63 3 r3 (c+1) (recV stV (L'++[(e1,e2,.slice ad 1 c1)])):=by rw [recS_snoc];exact hown3
    have ne3:∀ g,r3.ownBlock=some g→g≠wA.heap.size:=fun g e e2=>by subst e2;exact block_not_row X3 (by decide) hown3 e.symm
    obtain ⟨M0,hM0⟩:∃ M0,L'++[((e1,e2,.slice ad 1 c1):SVt)]=M0:=⟨_,rfl⟩
    rw [hM0] at hL3 hs4 hown4
    clear hs3 hown3 hg3 hM0 hat3 hs1 hr1 B1 ho1 b1 hrow hrowE HS HSE x0 x1 x2 x3 x4 y0 y1 y2 y3 y4 BE XE
    go_wp2_with fail
    go_loopw [3,23] (fun r i wq=>∃ (q c':Nat) (M':List SVt),q≤n∧c'≤k*1001+1+q∧i=.int .i64 q∧Hid (M'.length=c')∧Hid (StP wq M' (sTo 2 l k++((e1,e2,[(e0,e1,e2,e3,e4)])::sIn l (e0,e1,e2,e3,e4) q)))∧Below w.heap.size w wq∧SBox wq wA.heap.size 71 #[.int .i64 e0,.int .i64 e1,.int .i64 e2,.int .i64 e3,.int .i64 e4]∧(∀ g,r.ownBlock=some g→g≠wA.heap.size)∧wq.ownsRow w.heap.size 63 3 r c' (recV stV M')) (fun _ i _=>n - (intOf i).toNat)
    case atStart=>exact ⟨0,c+1,M0,Nat.zero_le _,by omega,rfl,hL3,hs4,B3,X3,ne3,hown4⟩
    case round =>
     obtain ⟨q,c',M',hq,hc',rfl,HLq,HSq,hbq,XQ,neq,hrowq⟩:=hrel
     clear X3 hs4 hown4 B3 ne3 hL3
     by_cases hlq:q < n
     ·have hq1:Hid (q < l.length):=by show q < _;rw [HN.out];exact hlq
      have jq:(q:Int) < (n:Int):=by omega
      obtain ⟨⟨g0,g1,g2,g3,g4⟩,hg⟩:∃ x,l[q]'hq1.out=x:=⟨_,rfl⟩
      have HG:Hid (l[q]'hq1.out=(g0,g1,g2,g3,g4)):=hg
      obtain ⟨z0,z1,z2,z3,z4⟩:=HQ.out q hq1.out _ hbq
      rw [hg] at z0 z1 z2 z3 z4
      simp only at z0 z1 z2 z3 z4
      clear hg
      have XG:=SBox.new wr 71 #[.int .i64 g0,.int .i64 g1,.int .i64 g2,.int .i64 g3,.int .i64 g4]
      have XR:=XQ.alloc (.cells #[.int .i64 g0,.int .i64 g1,.int .i64 g2,.int .i64 g3,.int .i64 g4] 71)
      have BG:=hbq.alloc hbq.size (.cells #[.int .i64 g0,.int .i64 g1,.int .i64 g2,.int .i64 g3,.int .i64 g4] 71)
      have hrowG:=hrowq.alloc (.cells #[.int .i64 g0,.int .i64 g1,.int .i64 g2,.int .i64 g3,.int .i64 g4] 71)
      have u0:=XG.cell 0 _ rfl
      have u1:=XG.cell 1 _ rfl
      have u2:=XG.cell 2 _ rfl
      have u3:=XG.cell 3 _ rfl
      have u4:=XG.cell 4 _ rfl
      have y0:=XR.cell 0 _ rfl
      have y1:=XR.cell 1 _ rfl
      have y2:=XR.cell 2 _ rfl
      have y3:=XR.cell 3 _ rfl
      have y4:=XR.cell 4 _ rfl
      have HSG:Hid (StP (wr.alloc (.cells #[.int .i64 g0,.int .i64 g1,.int .i64 g2,.int .i64 g3,.int .i64 g4] 71)) M' (sTo 2 l k++((e1,e2,[(e0,e1,e2,e3,e4)])::sIn l (e0,e1,e2,e3,e4) q))):=HSq.out.below ((Below.refl _ _).alloc (Nat.le_refl _) _)
      obtain ⟨_,_,rfl⟩:=own_shape hrowq
      by_cases hm:g0=3∧g1=e2
      ·have m0:(g0==3)=true:=by rw [hm.1];rfl
       have m1:(g1==e2)=true:=by rw [hm.2];exact beq_self_eq_true _
       have HY:Hid (sIn l (e0,e1,e2,e3,e4) (q+1)=sIn l (e0,e1,e2,e3,e4) q++[(e1,g2,[(e0,e1,e2,e3,e4),(g0,g1,g2,g3,g4)])]):=by show _=_;rw [sIn_yes l _ q hq1.out (by rw [HG.out];exact hm),HG.out];rfl
       clear hm
       go_wp2_with fail
       refine (pjoined_any e0 e1 e2 e3 e4 g0 g1 g2 g3 g4 _).mono ?_
       rintro e1' w5 ⟨ad5,c5,rfl,b5,ho5⟩
       have hs5:=HSG.out.below b5
       have hr5:=owns_below hrowG b5
       have B5:=bel_trans BG b5
       go_wp2_with fail
       refine (pbhS_any _ c' _ e1 g2 ad5 2 c5 w.heap.size _ hr5 (by have:=B5.size;omega) (by omega)).mono ?_
       rintro e2' w6 ⟨r6,rfl,hown6,hg6,hat6⟩
       have hs6:=hs5.push hr5 (e1) (g2) [(e0,e1,e2,e3,e4),(g0,g1,g2,g3,g4)] (by simp) ho5 hg6
       have B6:Below w.heap.size w w6:=B5.grown hg6 (by have:=B5.size;omega) (fun j hj=>own_far hr5 j hj)
       have X6:SBox w6 wA.heap.size 71 #[.int .i64 e0,.int .i64 e1,.int .i64 e2,.int .i64 e3,.int .i64 e4]:=(hg6.block _ (XR.below b5).lt (block_not_row (XR.below b5) (by decide) hr5)).trans (XR.below b5)
       go_wp2_with fail
       refine ⟨⟨q+1,c'+1,M'++[(e1,g2,.slice ad5 2 c5)],by omega,by omega,by first | go_num | simp,by show _=_;rw [List.length_append,HLq.out];rfl,by show StP _ _ _;rw [HY.out,← List.cons_append,← List.append_assoc];exact hs6,B6,X6,fun g e e2=>by subst e2;exact block_not_row X6 (by decide) hown6 e.symm,by rw [recS_snoc];exact hown6⟩,by simp [intOf];omega⟩
      ·have HY:Hid (sIn l (e0,e1,e2,e3,e4) (q+1)=sIn l (e0,e1,e2,e3,e4) q):=sIn_no l _ q hq1.out (by rw [HG.out];exact hm)
       have HF:Hid (StP (wr.alloc (.cells #[.int .i64 g0,.int .i64 g1,.int .i64 g2,.int .i64 g3,.int .i64 g4] 71)) M' (sTo 2 l k++((e1,e2,[(e0,e1,e2,e3,e4)])::sIn l (e0,e1,e2,e3,e4) (q+1)))):=by show StP _ _ _;rw [HY.out];exact HSG.out
       by_cases m3:g0=3
       ·have m0:(g0==3)=true:=by rw [m3];rfl
        have m1:(g1==e2)=false:=beq_eq_false_iff_ne.2 (fun hh=>hm ⟨m3,hh⟩)
        clear hm m3
        go_wp2_with fail
        refine ⟨⟨q+1,c',M',by omega,by omega,by first | go_num | simp,HLq,HF,BG,XR,neq,hrowG⟩,by simp [intOf];omega⟩
       ·have m0:(g0==3)=false:=beq_eq_false_iff_ne.2 m3
        clear hm m3
        go_wp2_with fail
        refine ⟨⟨q+1,c',M',by omega,by omega,by first | go_num | simp,HLq,HF,BG,XR,neq,hrowG⟩,by simp [intOf];omega⟩
     ·obtain rfl:q=n:=by omega
      have jq:¬ (q:Int) < (q:Int):=by omega
      go_wp2_with fail
      refine ⟨⟨k+1,c',M',by omega,by omega,by first | go_num | simp,HLq,by show StP _ _ _;rw [HNx.out,HO.out];exact HSq.out,hbq,hrowq⟩,by simp [intOf];omega⟩
  ·obtain rfl:k=n:=by omega
   have jq:¬ (k:Int) < (k:Int):=by omega
   go_wp2_with fail
   go_ret
   have e:sTo 2 l k=stepsL 2 l:=by rw [← HN.out,sTo_all]
   have hs:=HS.out
   rw [e] at hs
   refine ⟨_,L',rfl,hbw,?_,hs.of⟩
   rw [HL.out]
   exact hrow
set_option maxHeartbeats 1000000 in
theorem psteps10_any (level:Int) (l:List Ed) (v:Value) (w:World) (hT:IsEds w v l) (hle:l.length≤1000) :
 Calls Tryz.prog 33 #[.int .i64 level,v] w fun e w'=>StRow 63 w (stepsL level l) e w':=by
 have C1:=pserial_any l v w hT hle
 have C2:=psnap_any l v w hT hle
 obtain ⟨a,cap,rfl,_⟩:=hT.reads
 by_cases h1:level=1
 ·subst h1
  go_enter Tryz.func33,Tryz.ntmps33
  go_wp2_with fail
  refine C1.mono ?_
  rintro e w1 ⟨v,L',rfl,b1,h2,h3⟩
  go_wp2_with fail
  go_ret
  exact ⟨v,L',rfl,b1,h2,h3⟩
 ·have k1:(level==1)=false:=beq_eq_false_iff_ne.2 h1
  by_cases h2:level=2
  ·subst h2
   go_enter Tryz.func33,Tryz.ntmps33
   go_wp2_with fail
   refine C2.mono ?_
   rintro e w1 ⟨v,L',rfl,b1,h2,h3⟩
   go_wp2_with fail
   go_ret
   exact ⟨v,L',rfl,b1,h2,h3⟩
  ·have k2:(level==2)=false:=beq_eq_false_iff_ne.2 h2
   have e:stepsL level l=[]:=by
    unfold stepsL
    rw [List.flatMap_eq_nil_iff]
    exact fun x _=>stepOf_o level l x h1 h2
   rw [e]
   clear h1 h2
   go_enter Tryz.func33,Tryz.ntmps33
   go_wp2_with fail
   go_ret
   exact ⟨_,[],rfl,Below.refl _ _,World.ownsRow_nil _ _ _ _,(StP.nil _).of⟩
end Go.Proofs.YtdlcimfifkhllaaGreat
namespace Go.Proofs.YtdlcimfifkhllaaGreat
set_option maxRecDepth 100000
set_option linter.unusedVariables false
def aheadQ (h:List Ev) (key val:List UInt8) (b:Nat):Bool:=if val=[] then true else match writerL h key val with
 | none=>false
 | some w=>(findP h (ev h w).2.1).1.2.2.2&&decide ((findP h (ev h w).2.1).1.2.2.1 < b)
theorem hold_no (h:List Ev) (e:Ed) (hn:¬ holdsL h e):holdsC h e=false:=by
 cases hb:holdsC h e with
 | false=>rfl
 | true=>exact absurd ((holdsC_iff h e).1 hb) hn
theorem hold_inv (h:List Ev) (k f t:Int) (i j:Nat) (hh:holdsL h (k,f,t,(i:Int),(j:Int))):(ev h i).2.2.1=(ev h j).2.2.1∧(ev h i).2.1=f∧(ev h j).2.1=t:=by
 obtain ⟨a',b',i',j',q1,q2,q3,q4,q5,q6,q7,q8,q9,q10,_⟩:=hh
 simp only at q4 q5 q9 q10
 obtain rfl:i'=i:=by omega
 obtain rfl:j'=j:=by omega
 exact ⟨q8,q9,q10⟩
theorem hold_main (h:List Ev) (k f t:Int) (i j a b:Nat) (x0 y0:Int) (x2 x3 y3:List UInt8) (ha:commL h f=some a) (hb:commL h t=some b) (hft:f≠t) (hi:i < h.length) (hj:j < h.length) (hx:ev h i=(x0,f,x2,x3)) (hy:ev h j=(y0,t,x2,y3)) :
 holdsC h (k,f,t,(i:Int),(j:Int))=if k=1 then decide (x0=3)&&decide (y0=3)&&decide (a < b) else if k=2 then decide (x0=3)&&decide (y0=2)&&decide (x3=y3) else if k=3 then decide (x0=2)&&decide (y0=3)&&aheadQ h x2 x3 b else false:=by
 unfold holdsC
 simp only [ha,hb]
 rw [if_neg hft,if_neg (by omega),if_neg (by omega),if_neg (by omega),if_neg (by omega),Int.toNat_natCast,Int.toNat_natCast,hx,hy]
 unfold holdsK
 simp only
 rw [if_neg (fun e=>e rfl),if_neg (fun e=>e rfl),if_neg (fun e=>e rfl)]
 by_cases k1:k=1
 ·rw [if_pos k1,if_pos k1]
 ·rw [if_neg k1,if_neg k1]
  by_cases k2:k=2
  ·rw [if_pos k2,if_pos k2]
  ·rw [if_neg k2,if_neg k2]
   by_cases k3:k=3
   ·rw [if_neg (fun e=>e k3),if_pos k3]
    by_cases p:x0=2
    ·rw [if_neg (fun e=>e p),decide_eq_true p]
     by_cases q:y0=3
     ·rw [if_neg (fun e=>e q),decide_eq_true q]
      unfold aheadQ
      by_cases v0:x3=[]
      ·rw [if_pos v0,if_pos v0];rfl
      ·rw [if_neg v0,if_neg v0]
       cases hw:writerL h x2 x3 with
       | none=>rfl
       | some w =>
         simp only [Bool.true_and]
         have ht:tx h w=(ev h w).2.1:=rfl
         rw [ht]
         rcases life_comm h (ev h w).2.1 with ⟨e,f',h1,h2⟩ | ⟨h1,h2⟩
         ·rw [h1,h2]
          simp only [Bool.true_and]
          by_cases hq:(ev h w).2.1=t
          ·rw [if_pos hq]
           rw [hq,hb] at h1
           cases h1
           simp
          ·rw [if_neg hq]
         ·rw [h1,h2]
          simp
     ·rw [if_pos q,decide_eq_false q];simp
    ·rw [if_pos p,decide_eq_false p];simp
   ·rw [if_pos k3,if_neg k3]
end Go.Proofs.YtdlcimfifkhllaaGreat
namespace Go.Proofs.YtdlcimfifkhllaaGreat
set_option maxRecDepth 100000
open Go.RowKit
set_option linter.unusedVariables false
def farW (w U:World) (d:Decidable (Below w.heap.size w U):=Classical.propDecidable _):World:=@ite World (Below w.heap.size w U) d U w
theorem farW_eq {w U:World} (h:Below w.heap.size w U):farW w U=U:=by unfold farW;rw [if_pos h]
theorem farW_bel (w U:World):Below w.heap.size w (farW w U):=by
 unfold farW
 split
 ·assumption
 ·exact Below.refl _ _
theorem farW_cell (w U:World) (a:Addr) (h:(w.cell? a).isSome=true):(farW w U).cell? a=w.cell? a:=by
 obtain ⟨v,hv⟩:=Option.isSome_iff_exists.1 h
 exact (farW_bel w U).cell (World.block_lt_of_cell? w a hv)
section
variable {P:Program}
theorem region_far {id:Nat} {Q:Exit→Act→World→Prop} {a:Act} {w:World} {l:List Oper} (hm:P.follows .mixedOrders=true) (hB:Region.lexB .any l.toArray=true)
 (h:wpQuiet P l.toArray (fun w'=>∃ U,w'=farW w U) (fun a'=>∀ w',(∃ U,w'=farW w U)→Q .normal a' w') l a):(Code.region id l.toArray true).wp P Q a w :=
 wp_region_quiet (C:=fun w'=>∃ U,w'=farW w U) hm hB ⟨w.drew,(farW_eq (Below.refl _ _).drew).symm⟩ (by simpa using h)
theorem calls_far {f:FuncId} {args:Array Value} {w U:World} {v:Value} (h:Calls P f args (farW w U) fun e w'=>e=.returned v∧Below (farW w U).heap.size (farW w U) w'):Calls P f args (farW w U) fun e w''=>e=.returned v∧∃ U',w''=farW w U' :=
 h.mono fun _ w' ⟨he,hb⟩=>⟨he,w',(farW_eq (bel_trans (farW_bel w U) hb)).symm⟩
end
end Go.Proofs.YtdlcimfifkhllaaGreat
namespace Go.Proofs.YtdlcimfifkhllaaGreat
set_option maxRecDepth 100000
open Go.RowKit
set_option linter.unusedVariables false
attribute [local go_sem] ba_size
theorem pwithin_any (t:List UInt8) (lo hi:Int) (w:World) :
 Calls Tryz.prog 99 #[.string ⟨t.toArray⟩,.int .i64 lo,.int .i64 hi] w fun e w'=>e=.returned (.bool (decide (lo≤(t.length:Int)∧(t.length:Int)≤hi)))∧Below w.heap.size w w':=by
 by_cases c1:lo≤(t.length:Int)
 ·have d1:¬ (t.length:Int) < lo:=by omega
  by_cases c2:(t.length:Int)≤hi
  ·rw [decide_eq_true (show _∧_ from ⟨c1,c2⟩)]
   go_enter Tryz.func99,Tryz.ntmps99
   go_wp2_with fail
   go_ret
   exact ⟨rfl,Below.refl _ _⟩
  ·rw [decide_eq_false (show ¬ (_∧_) from fun h=>c2 h.2)]
   go_enter Tryz.func99,Tryz.ntmps99
   go_wp2_with fail
   go_ret
   exact ⟨rfl,Below.refl _ _⟩
 ·have d1:(t.length:Int) < lo:=by omega
  rw [decide_eq_false (show ¬ (_∧_) from fun h=>c1 h.1)]
  go_enter Tryz.func99,Tryz.ntmps99
  go_wp2_with fail
  go_ret
  exact ⟨rfl,Below.refl _ _⟩
theorem ptexts2 (w:World):Calls Tryz.prog 98 #[.int .i64 2] w fun e w'=>e=.returned (.tuple #[.bool true,.int .i64 0])∧Below w.heap.size w w':=by
 go_enter Tryz.func98,Tryz.ntmps98
 go_wp2_with fail
 go_ret2
 exact ⟨rfl,Below.refl _ _⟩
theorem ptexts3 (w:World):Calls Tryz.prog 98 #[.int .i64 3] w fun e w'=>e=.returned (.tuple #[.bool true,.int .i64 1])∧Below w.heap.size w w':=by
 go_enter Tryz.func98,Tryz.ntmps98
 go_wp2_with fail
 go_ret2
 exact ⟨rfl,Below.refl _ _⟩
theorem ptextsN (k:Int) (h:¬ (k=2∨k=3)) (w:World):Calls Tryz.prog 98 #[.int .i64 k] w fun e w'=>e=.returned (.tuple #[.bool false,.int .i64 0])∧Below w.heap.size w w':=by
 have q1:(k==2)=false:=by rw [beq_eq_false_iff_ne];exact fun h'=>h (Or.inl h')
 have q2:(k==3)=false:=by rw [beq_eq_false_iff_ne];exact fun h'=>h (Or.inr h')
 clear h
 go_enter Tryz.func98,Tryz.ntmps98
 go_wp2_with fail
 go_ret2
 exact ⟨rfl,Below.refl _ _⟩
theorem ptexts_key (k:Int) (h:k=2∨k=3) (w:World):Calls Tryz.prog 98 #[.int .i64 k] w fun e w'=>e=.returned (.tuple #[.bool true,.int .i64 (if k=2 then 0 else 1)])∧Below w.heap.size w w':=by
 rcases h with rfl | rfl
 ·exact ptexts2 w
 ·exact ptexts3 w
set_option maxHeartbeats 1000000 in
theorem pmay_any (k t:Int) (a b:List UInt8) (w:World) :
 Calls Tryz.prog 77 #[.agg #[.int .i64 k,.int .i64 t,.string ⟨a.toArray⟩,.string ⟨b.toArray⟩]] w fun e w'=>e=.returned (.bool (decide (mayE (k,t,a,b))))∧Below w.heap.size w w':=by
 have al:∀ o,Below w.heap.size w (w.alloc o):=fun o=>(Below.refl _ w).alloc (Nat.le_refl _) o
 by_cases c0:k < 1
 ·rw [decide_eq_false (show ¬ mayE _ from fun h=>by have h:=mayE_range h;omega)]
  go_enter Tryz.func77,Tryz.ntmps77
  go_wp2_with fail
  go_ret
  exact ⟨rfl,al _⟩
 ·have c0':¬ k < 1:=c0
  by_cases c1:5 < k
  ·rw [decide_eq_false (show ¬ mayE _ from fun h=>by have h:=mayE_range h;omega)]
   go_enter Tryz.func77,Tryz.ntmps77
   go_wp2_with fail
   go_ret
   exact ⟨rfl,al _⟩
  ·have c1':¬ 5 < k:=c1
   by_cases c2:t < 1
   ·rw [decide_eq_false (show ¬ mayE _ from fun h=>by have h:=mayE_range h;omega)]
    go_enter Tryz.func77,Tryz.ntmps77
    go_wp2_with fail
    go_ret
    exact ⟨rfl,al _⟩
   ·have c2':¬ t < 1:=c2
    by_cases c3:32 < t
    ·rw [decide_eq_false (show ¬ mayE _ from fun h=>by have h:=mayE_range h;omega)]
     go_enter Tryz.func77,Tryz.ntmps77
     go_wp2_with fail
     go_ret
     exact ⟨rfl,al _⟩
    ·have c3':¬ 32 < t:=c3
     by_cases u1:k=2∨k=3
     ·have T:=fun W=>ptexts_key k u1 W
      obtain ⟨m,hm⟩:∃ m:Int,(if k=2 then 0 else 1:Int)=m:=⟨_,rfl⟩
      rw [hm] at T
      have HM:Hid (decide (mayE (k,t,a,b))=decide (((1:Int)≤(a.length:Int)∧(a.length:Int)≤32)∧(m≤(b.length:Int)∧(b.length:Int)≤32))):=by
       show _=_
       rw [decide_eq_decide,mayE_key u1]
       rcases u1 with rfl | rfl
       ·rw [if_pos rfl] at hm;subst hm;omega
       ·rw [if_neg (by omega)] at hm;subst hm;omega
      rw [HM.out]
      clear u1 hm HM
      have W1:=fun W=>pwithin_any a 1 32 W
      have W2:=fun W=>pwithin_any b m 32 W
      by_cases d1:(1:Int)≤(a.length:Int)∧(a.length:Int)≤32
      ·rw [decide_eq_true d1] at W1
       obtain ⟨v,hv⟩:∃ v,decide (m≤(b.length:Int)∧(b.length:Int)≤32)=v:=⟨_,rfl⟩
       have HV:Hid (decide (((1:Int)≤(a.length:Int)∧(a.length:Int)≤32)∧(m≤(b.length:Int)∧(b.length:Int)≤32))=v):=by
        show _=_
        rw [← hv,decide_eq_decide]
        exact ⟨fun h=>h.2,fun h=>⟨d1,h⟩⟩
       rw [HV.out]
       rw [hv] at W2
       clear hv HV d1
       have HW1:Hid (∀ W,Calls Tryz.prog 99 #[.string ⟨a.toArray⟩,.int .i64 1,.int .i64 32] W fun e w'=>e=.returned (.bool true)∧Below W.heap.size W w'):=W1
       have HW2:Hid (∀ W,Calls Tryz.prog 99 #[.string ⟨b.toArray⟩,.int .i64 m,.int .i64 32] W fun e w'=>e=.returned (.bool v)∧Below W.heap.size W w'):=W2
       clear W1 W2
       go_enter Tryz.func77,Tryz.ntmps77
       go_wp2_with fail
       refine (T _).mono ?_
       rintro e w1 ⟨rfl,b1⟩
       have x2:=box_cell b1 2 _ rfl
       go_wp2_with fail
       refine (HW1.out _).mono ?_
       rintro e w2 ⟨rfl,b2⟩
       have b2':=bel_trans b1 b2
       have x3:=box_cell b2' 3 _ rfl
       go_wp2_with fail
       refine (HW2.out _).mono ?_
       rintro e w3 ⟨rfl,b3⟩
       go_wp2_with fail
       go_ret
       exact ⟨rfl,bel_trans (al _) (bel_trans b2' b3)⟩
      ·rw [decide_eq_false d1] at W1
       rw [decide_eq_false (show ¬ (_∧_) from fun h=>d1 h.1)]
       have HW1:Hid (∀ W,Calls Tryz.prog 99 #[.string ⟨a.toArray⟩,.int .i64 1,.int .i64 32] W fun e w'=>e=.returned (.bool false)∧Below W.heap.size W w'):=W1
       clear d1 W1 W2
       go_enter Tryz.func77,Tryz.ntmps77
       go_wp2_with fail
       refine (T _).mono ?_
       rintro e w1 ⟨rfl,b1⟩
       have x2:=box_cell b1 2 _ rfl
       go_wp2_with fail
       refine (HW1.out _).mono ?_
       rintro e w2 ⟨rfl,b2⟩
       have b2':=bel_trans b1 b2
       go_wp2_with fail
       go_ret
       exact ⟨rfl,bel_trans (al _) b2'⟩
     ·have T:=fun W=>ptextsN k u1 W
      have HM:Hid (decide (mayE (k,t,a,b))=decide (a=[]∧b=[])):=by
       show _=_
       rw [decide_eq_decide,mayE_unkey u1]
       exact ⟨fun h=>h.2,fun h=>⟨by omega,h⟩⟩
      rw [HM.out]
      clear u1 HM
      cases a with
      | nil =>
        cases b with
        | nil =>
          go_enter Tryz.func77,Tryz.ntmps77
          go_wp2_with fail
          refine (T _).mono ?_
          rintro e w1 ⟨rfl,b1⟩
          have x2:=box_cell b1 2 _ rfl
          have x3:=box_cell b1 3 _ rfl
          go_wp2_with fail
          go_ret
          exact ⟨rfl,bel_trans (al _) b1⟩
        | cons y r =>
          rw [decide_eq_false (show ¬ (_∧_) from fun h=>by cases h.2)]
          obtain ⟨b,hb⟩:∃ b,y::r=b:=⟨_,rfl⟩
          have q:=ne_empty' b (by rw [← hb];simp)
          rw [hb]
          clear hb
          go_enter Tryz.func77,Tryz.ntmps77
          go_wp2_with fail
          refine (T _).mono ?_
          rintro e w1 ⟨rfl,b1⟩
          have x2:=box_cell b1 2 _ rfl
          have x3:=box_cell b1 3 _ rfl
          go_wp2_with fail
          go_ret
          exact ⟨rfl,bel_trans (al _) b1⟩
      | cons x r =>
        rw [decide_eq_false (show ¬ (_∧_) from fun h=>by cases h.1)]
        obtain ⟨a,ha⟩:∃ a,x::r=a:=⟨_,rfl⟩
        have q:=ne_empty' a (by rw [← ha];simp)
        rw [ha]
        clear ha
        go_enter Tryz.func77,Tryz.ntmps77
        go_wp2_with fail
        refine (T _).mono ?_
        rintro e w1 ⟨rfl,b1⟩
        have x2:=box_cell b1 2 _ rfl
        go_wp2_with fail
        go_ret
        exact ⟨rfl,bel_trans (al _) b1⟩
theorem run_bdeq (w:World) (x0 x1 x2 y0 y1 y2:Int):Sem.run Tryz.prog (Op.equalIn 10000 25 (.agg #[.int .i64 x0,.int .i64 x1,.int .i64 x2]) (.agg #[.int .i64 y0,.int .i64 y1,.int .i64 y2])) w=.ok (decide (x0=y0)&&decide (x1=y1)&&decide (x2=y2)) w:=by
 by_cases h0:x0=y0<;>by_cases h1:x1=y1<;>by_cases h2:x2=y2<;>simp [go_sem,h0,h1,h2]
theorem run_bdeql (w:World) (x0 x1 x2 y0 y1 y2:Int):Sem.run Tryz.prog (binOp .eql 25 (.agg #[.int .i64 x0,.int .i64 x1,.int .i64 x2]) (.agg #[.int .i64 y0,.int .i64 y1,.int .i64 y2])) w=.ok (.bool (decide (x0=y0)&&decide (x1=y1)&&decide (x2=y2))) w:=by
 rw [run_eql_struct,run_bdeq]
 rfl
end Go.Proofs.YtdlcimfifkhllaaGreat
