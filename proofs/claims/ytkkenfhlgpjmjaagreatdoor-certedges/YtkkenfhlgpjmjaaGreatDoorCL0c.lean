/-
  The library's heap at the heap of numbers that ring.Order keeps: a number goes up. The least that is free, by counts: what ring.Order's loops say: in lists. Sma
-/
import Derived.Test.YtkkenfhlgpjmjaaGreatDoorCL0b
namespace Go.Proofs.YtkkenfhlgpjmjaaGreatDoor
set_option maxRecDepth 100000
open Go.RowKit
set_option linter.unusedVariables false
attribute [local go_sem] ba_size
abbrev tPR:TypeId:=305
abbrev ifR (bn:Nat):Value:=.iface tPR (.pointer (some ⟨bn,0,none⟩))
section
variable (b:Nat) (W:World)
theorem nil_len:(nilAhead 473 305 (.pointer (some ⟨b,0,none⟩)) "Len").run Tryz.prog W=.ok (some false) W:=by kernel_rfl
theorem nil_less:(nilAhead 473 305 (.pointer (some ⟨b,0,none⟩)) "Less").run Tryz.prog W=.ok (some false) W:=by kernel_rfl
theorem nil_swap:(nilAhead 473 305 (.pointer (some ⟨b,0,none⟩)) "Swap").run Tryz.prog W=.ok (some false) W:=by kernel_rfl
theorem nil_push:(nilAhead 473 305 (.pointer (some ⟨b,0,none⟩)) "Push").run Tryz.prog W=.ok (some false) W:=by kernel_rfl
theorem nil_pop:(nilAhead 473 305 (.pointer (some ⟨b,0,none⟩)) "Pop").run Tryz.prog W=.ok (some false) W:=by kernel_rfl
theorem m_push:(method 473 305 (.pointer (some ⟨b,0,none⟩)) "Push").run Tryz.prog W=.ok (334,.pointer (some ⟨b,0,none⟩)) W:=by kernel_rfl
theorem m_pop:(method 473 305 (.pointer (some ⟨b,0,none⟩)) "Pop").run Tryz.prog W=.ok (333,.pointer (some ⟨b,0,none⟩)) W:=by kernel_rfl
theorem m_len {v:Value} (h:W.cell? ⟨b,0,none⟩=some v):(method 473 305 (.pointer (some ⟨b,0,none⟩)) "Len").run Tryz.prog W=.ok (206,v) W:=by
 have e:(method 473 305 (.pointer (some ⟨b,0,none⟩)) "Len").run Tryz.prog W=(do let v ← load ⟨b,0,none⟩;pure (206,v):Sem (FuncId × Value)).run Tryz.prog W:=by kernel_rfl
 rw [e]
 go_simp
theorem m_less {v:Value} (h:W.cell? ⟨b,0,none⟩=some v):(method 473 305 (.pointer (some ⟨b,0,none⟩)) "Less").run Tryz.prog W=.ok (330,v) W:=by
 have e:(method 473 305 (.pointer (some ⟨b,0,none⟩)) "Less").run Tryz.prog W=(do let v ← load ⟨b,0,none⟩;pure (330,v):Sem (FuncId × Value)).run Tryz.prog W:=by kernel_rfl
 rw [e]
 go_simp
theorem m_swap {v:Value} (h:W.cell? ⟨b,0,none⟩=some v):(method 473 305 (.pointer (some ⟨b,0,none⟩)) "Swap").run Tryz.prog W=.ok (332,v) W:=by
 have e:(method 473 305 (.pointer (some ⟨b,0,none⟩)) "Swap").run Tryz.prog W=(do let v ← load ⟨b,0,none⟩;pure (332,v):Sem (FuncId × Value)).run Tryz.prog W:=by kernel_rfl
 rw [e]
 go_simp
end
theorem HpS.row {W:World} {B bn:Nat} {a:List Int} (h:HpS W B bn a) (h0:0 < a.length):∃ g cp,B≤bn∧Boxed W bn tR (.slice (some ⟨g,0,none⟩) a.length cp)∧HRow W B g cp a∧B≤g∧g≠bn:=by
 obtain ⟨hB,v,hb,hrow⟩:=h
 have hne:=block_not_row hb (by decide) hrow
 rcases hrow.2 with ⟨_,e0⟩ | ⟨g,cp,cur,rfl,hbase,_⟩
 ·omega
 ·exact ⟨g,cp,hB,hb,hrow,hbase,fun e=>hne (by rw [e];simp [Value.ownBlock])⟩
theorem HpS.of_swap {W W':World} {B bn g cp:Nat} {a b:List Int} (hl:b.length=a.length) (hB:B≤bn) (hb:Boxed W bn tR (.slice (some ⟨g,0,none⟩) a.length cp)) (hne:g≠bn) (hr:HRow W' B g cp b) (hg:W.grownBy W' (some g)):HpS W' B bn b :=
 ⟨hB,_,hb.kept hg (fun e=>hne (by simpa using e.symm)),by rw [← hl];exact hr⟩
set_option maxHeartbeats 4000000 in
theorem pup11_any (W:World) (B bn:Nat) (a:List Int) (n:Nat) (hl:a.length=n+1) (h:HpS W B bn a) (hU:UpI a n (n+1)) (hn:n < 17592186044416) :
 Calls Tryz.prog 286 #[ifR bn,.int .i64 (n:Int)] W fun e W'=>e=.returned (.tuple #[])∧(∃ b,HpS W' B bn b∧b.Perm a∧HeapN b (n+1))∧Fr B bn W W':=by
 have HLen:Hid (a.length=n+1):=hl
 have HUp:Hid (UpI a n (n+1)):=hU
 have HH:Hid (HpS W B bn a):=h
 clear hl hU h
 go_enter Tryz.func286,Tryz.ntmps286
 go_wp2_with fail
 go_loopw [1] (fun jv wr=>∃ (j:Nat) (b:List Int),jv=.int .i64 (j:Int)∧j≤n∧Hid (b.length=n+1)∧Hid (HpS wr B bn b)∧Hid (b.Perm a)∧Hid (UpI b j (n+1))∧Fr B bn W wr) (fun jv _=>(RowKit.intOf jv).toNat)
 case atStart=>exact ⟨n,a,rfl,Nat.le_refl _,HLen,HH,List.Perm.refl _,HUp,Fr.refl _ _ _⟩
 case round =>
  obtain ⟨j,b,rfl,hj,HL,HS,HP,HI,hbw⟩:=hrel
  by_cases h0:j=0
  ·subst h0
   have HR:Hid (∃ b,HpS wr B bn b∧b.Perm a∧HeapN b (n+1)):=⟨b,HS.out,HP.out,upI_zero HI.out⟩
   go_wp2_with fail
   go_end0
   exact ⟨rfl,HR.out,hbw⟩
  ·have hl1:=HL.out
   obtain ⟨g,cp,hB,hb,hr,hBg,hgne⟩:=HS.out.row (by omega)
   have p0:=hb.cell
   have q1:=nil_less bn wr
   have q2:=m_less bn wr p0
   have CL:=pless11_any wr B g cp b hr j ((j - 1) / 2) (by omega) (by omega) (by omega)
   have HRr:Hid (HRow wr B g cp b):=hr
   have HBx:Hid (Boxed wr bn tR (.slice (some ⟨g,0,none⟩) b.length cp)):=hb
   obtain ⟨i,hi⟩:∃ i,(j - 1) / 2=i:=⟨_,rfl⟩
   have HIi:Hid ((j - 1) / 2=i):=hi
   rw [hi] at CL
   have hij:i < j:=by omega
   have e1:Int.tdiv ((j:Int) - 1) 2=(i:Int):=by
    rw [← hi,Int.tdiv_eq_ediv_of_nonneg (by omega)];omega
   have e2:((i:Int)==(j:Int))=false:=by simp;omega
   clear hi
   by_cases hlt:hg b j < hg b i
   ·rw [decide_eq_true hlt] at CL
    have HI2:Hid (UpI (swL b i j) i (n+1)):=by
     have:=upI_step HI.out (by omega) (by omega) (by omega) (by rw [HIi.out];exact hlt)
     rw [HIi.out] at this
     exact this
    have HP2:Hid ((swL b i j).Perm a):=(swL_perm b i j (by omega) (by omega)).trans HP.out
    have HL2:Hid ((swL b i j).length=n+1):=(swL_len b i j).trans hl1
    rw [hl1] at hb p0 q2 CL
    clear hlt hb hr
    go_wp2_with fail
    refine CL.mono ?_
    rintro e w1 ⟨rfl,b1⟩
    have hb1:=boxed_below7 HBx.out b1
    have hr1:HRow w1 B g cp b:=HRr.out.kept (grown_below8 none b1) (by simp [Value.ownBlock])
    have p1:=hb1.cell
    have q3:=nil_swap bn w1
    have q4:=m_swap bn w1 p1
    have CS:=pswap11_any w1 B g cp b hr1 i j (by omega) (by omega) (by omega)
    have B1:Fr B bn W w1:=hbw.andBelow b1 (by have:=HBx.out.lt;omega) HBx.out.lt
    have HBx1:Hid (Boxed w1 bn tR (.slice (some ⟨g,0,none⟩) b.length cp)):=hb1
    have HRr1:Hid (HRow w1 B g cp b):=hr1
    rw [hl1] at p1 q4 CS
    clear hb1 hr1
    go_wp2_with fail
    refine CS.mono ?_
    rintro e w2 ⟨rfl,hr2,g2⟩
    have HS2:Hid (HpS w2 B bn (swL b i j)):=HpS.of_swap (swL_len b i j) hB HBx1.out hgne hr2 g2
    have B2:Fr B bn W w2:=B1.row HRr1.out HBx1.out (by decide) g2 (by have:=HBx1.out.lt;omega)
    go_wp2_with fail
    refine ⟨⟨i,swL b i j,by first | go_num | simp,by omega,HL2,HS2,HP2,HI2,B2⟩,by simp [RowKit.intOf];omega⟩
   ·rw [decide_eq_false hlt] at CL
    have HR:Hid (HeapN b (n+1)):=upI_stop HI.out (by rw [HIi.out];omega)
    rw [hl1] at hb p0 q2 CL
    clear hlt hb hr
    go_wp2_with fail
    refine CL.mono ?_
    rintro e w1 ⟨rfl,b1⟩
    have B1:Fr B bn W w1:=hbw.andBelow b1 (by have:=HBx.out.lt;omega) HBx.out.lt
    have HE:Hid (∃ b,HpS w1 B bn b∧b.Perm a∧HeapN b (n+1)):=⟨b,HS.out.bel b1,HP.out,HR.out⟩
    go_wp2_with fail
    go_end0
    exact ⟨rfl,HE.out,B1⟩
end Go.Proofs.YtkkenfhlgpjmjaaGreatDoor
namespace Go.Proofs.YtkkenfhlgpjmjaaGreatDoor
set_option maxRecDepth 100000
open Go.RowKit Go.Shelf
set_option linter.unusedVariables false
abbrev EvZ:Ev:=(0,0,[],[])
theorem made_evs7 (n:Nat):(madeCells #[.int .i64 0,.int .i64 0,.string ByteArray.empty,.string ByteArray.empty] (n*4)).toList=recV evV (List.replicate n EvZ):=by
 apply List.ext_getElem?
 intro j
 by_cases hj:j < n*4
 ·have g:=recV_get evV_len (List.replicate n EvZ) (j / 4) (by simp;omega) (j % 4) (by omega)
  rw [show j / 4*4+j % 4=j by omega] at g
  rw [g,List.getElem_replicate]
  have h4:j % 4=0∨j % 4=1∨j % 4=2∨j % 4=3:=by omega
  rcases h4 with h4 | h4 | h4 | h4<;>rw [h4]<;>simp [madeCells,hj,h4,evV]<;>rfl
 ·have l:=recV_length evV_len (List.replicate n EvZ)
  rw [List.length_replicate] at l
  rw [List.getElem?_eq_none (l:=recV evV _) (by rw [l];omega)]
  simp [madeCells,hj]
theorem evs_put7 (D R:List Ev) (z x:Ev):((((recV evV (D++z::R)).set (D.length*4) (.int .i64 x.1)).set (D.length*4+1) (.int .i64 x.2.1)).set (D.length*4+2) (.string ⟨x.2.2.1.toArray⟩)).set (D.length*4+3) (.string ⟨x.2.2.2.toArray⟩)=recV evV (D++x::R):=by
 have l:=recV_length evV_len D
 have c:∀ y,recV evV (D++y::R)=recV evV D++(evV y++recV evV R):=fun y=>by rw [recV_append,show y::R=[y]++R from rfl,recV_append];simp [recV]
 rw [c,c,List.set_append_right _ _ (by omega),List.set_append_right _ _ (by omega),List.set_append_right _ _ (by omega),List.set_append_right _ _ (by omega),l,show D.length*4 - D.length*4=0 by omega,show D.length*4+1 - D.length*4=1 by omega,show D.length*4+2 - D.length*4=2 by omega,show D.length*4+3 - D.length*4=3 by omega]
 rfl
theorem evs_set7 (L:List Ev) (i:Nat) (hi:i < L.length) (x:Ev):((((recV evV L).set (i*4) (.int .i64 x.1)).set (i*4+1) (.int .i64 x.2.1)).set (i*4+2) (.string ⟨x.2.2.1.toArray⟩)).set (i*4+3) (.string ⟨x.2.2.2.toArray⟩)=recV evV (L.set i x):=by
 have e:L=L.take i++L[i]::L.drop (i+1):=by rw [← List.drop_eq_getElem_cons hi,List.take_append_drop]
 have hl:(L.take i).length=i:=by rw [List.length_take];omega
 have h:=evs_put7 (L.take i) (L.drop (i+1)) L[i] x
 rw [← e,hl] at h
 rw [h,List.set_eq_take_append_cons_drop,if_pos hi]
def putE (W:World) (g i:Nat) (x:Ev):World:=(((W.setCell ⟨g,i*4,none⟩ (.int .i64 x.1)).setCell ⟨g,i*4+1,none⟩ (.int .i64 x.2.1)).setCell ⟨g,i*4+2,none⟩ (.string ⟨x.2.2.1.toArray⟩)).setCell ⟨g,i*4+3,none⟩ (.string ⟨x.2.2.2.toArray⟩)
theorem putE_row {W:World} {B e g n cap i:Nat} {L:List Ev} (h:W.ownsRow B e 4 (.slice (some ⟨g,0,none⟩) n cap) n (recV evV L)) (hi:i < L.length) (x:Ev):(putE W g i x).ownsRow B e 4 (.slice (some ⟨g,0,none⟩) n cap) n (recV evV (L.set i x)):=by
 have hs:=((((h.stored (i*4) (.int .i64 x.1)).1.stored (i*4+1) (.int .i64 x.2.1)).1.stored (i*4+2) (.string ⟨x.2.2.1.toArray⟩)).1.stored (i*4+3) (.string ⟨x.2.2.2.toArray⟩)).1
 rw [evs_set7 L i hi x] at hs
 exact hs
theorem putE_other (W:World) (g i:Nat) (x:Ev) (b:Nat) (hb:b≠g):(putE W g i x).heap[b]?=W.heap[b]?:=by
 unfold putE
 rw [Below.heap_setCell _ _ _ b hb,Below.heap_setCell _ _ _ b hb,Below.heap_setCell _ _ _ b hb,Below.heap_setCell _ _ _ b hb]
theorem putE_size (W:World) (g i:Nat) (x:Ev):(putE W g i x).heap.size=W.heap.size:=by simp [putE]
theorem putE_below {B:Nat} {A W:World} (h:Below B A W) (g i:Nat) (x:Ev) (hg:B≤g):Below B A (putE W g i x) :=
 (((h.setCell (p:=⟨g,i*4,none⟩) hg _).setCell (p:=⟨g,i*4+1,none⟩) hg _).setCell (p:=⟨g,i*4+2,none⟩) hg _).setCell (p:=⟨g,i*4+3,none⟩) hg _
theorem putE_keeps (W:World) (g i:Nat) (x:Ev):KeepsOthers W (putE W g i x) :=
 (((KeepsOthers.setCell W _ _).trans (KeepsOthers.setCell _ _ _)).trans (KeepsOthers.setCell _ _ _)).trans (KeepsOthers.setCell _ _ _)
theorem row_cells7 {W:World} {B e g n cap i:Nat} {L:List Ev} (h:W.ownsRow B e 4 (.slice (some ⟨g,0,none⟩) n cap) n (recV evV L)) (hn:L.length=n) (hi:i < n) :
 ∃ y:Ev,(W.cell? ⟨g,i*4,none⟩=some (.int .i64 y.1)∧W.cell? ⟨g,i*4+1,none⟩=some (.int .i64 y.2.1)∧W.cell? ⟨g,i*4+2,none⟩=some (.string ⟨y.2.2.1.toArray⟩)∧W.cell? ⟨g,i*4+3,none⟩=some (.string ⟨y.2.2.2.toArray⟩)) ∧
   (W.frozen? ⟨g,i*4,none⟩=false∧W.frozen? ⟨g,i*4+1,none⟩=false∧W.frozen? ⟨g,i*4+2,none⟩=false∧W.frozen? ⟨g,i*4+3,none⟩=false):=by
 have hi':i < L.length:=by omega
 refine ⟨L[i],⟨?_,?_,?_,?_⟩,h.frozenAt _,h.frozenAt _,h.frozenAt _,h.frozenAt _⟩
 ·have c:=h.cellAt (i*4) (by omega)
  rw [show i*4=i*4+0 by omega,recV_get evV_len L i hi' 0 (by omega)] at c
  exact c
 ·have c:=h.cellAt (i*4+1) (by omega)
  rw [recV_get evV_len L i hi' 1 (by omega)] at c
  exact c
 ·have c:=h.cellAt (i*4+2) (by omega)
  rw [recV_get evV_len L i hi' 2 (by omega)] at c
  exact c
 ·have c:=h.cellAt (i*4+3) (by omega)
  rw [recV_get evV_len L i hi' 3 (by omega)] at c
  exact c
theorem boxed_bel {W W':World} {B b t:Nat} {v:Value} (h:Boxed W b t v) (hb:Below B W W') (hlt:b < B):Boxed W' b t v:=(hb.block b hlt).trans h
theorem sbox_bel {W W':World} {B b t:Nat} {c:Array Value} (h:SBox W b t c) (hb:Below B W W') (hlt:b < B):SBox W' b t c:=(hb.block b hlt).trans h
theorem owns_bel {B C e k n g m cap:Nat} {xs:List Value} {w w':World} (h:w.ownsRow B e k (.slice (some ⟨g,0,none⟩) m cap) n xs) (hb:Below C w w') (hg:g < C):w'.ownsRow B e k (.slice (some ⟨g,0,none⟩) m cap) n xs:=by
 obtain ⟨h1,h2⟩:=h
 refine ⟨h1,?_⟩
 rcases h2 with h2 | ⟨g',cap',cur,hv,hbg,hg',r⟩
 ·exact .inl h2
 ·refine .inr ⟨g',cap',cur,hv,hbg,(hb.block g' ?_).trans hg',r⟩
  simp at hv
  omega
theorem ownFrom_of_below {β:Type} {B:Nat} {I:β→World→Prop} (hs:∀ s W,I s W→B≤W.heap.size) (h:∀ s W W',I s W→Below B W W'→I s W'):OwnFrom B I :=
 fun s W W' row hi hg hr=>h s W W' hi ((Below.refl B W).grown hg (hs s W hi) (fun k e=>(hr k e).1))
theorem ownFrom_false {β:Type} (B:Nat):OwnFrom B (fun (_:β) (_:World)=>False):=fun _ _ _ _ h _ _=>h
theorem wpListIn_make_full7 {F:Fence} {n:Nat} {P:Program} (w:World) {ops:Array Oper} {rest:List Oper} {o:Oper} {a:Act} {Q:Exit→Act→World→Prop}
 (hg:o.guard=none) (l c:Operand) (t:TypeId) (hop:o.op=Op.makeSlice t l c)
 (base:Nat) (e:TypeId) (i:TypeInfo) (z:Value) (size:Nat) (h1:P.underlying t=some (.slice e)) (h2:P.info? e=some i) (h3:i.zero=some z) (h4:i.size=size)
 (kl kc:IntKind) (L C:Int) (m:Nat) (hl:a.eval l=.int kl L) (hc:a.eval c=.int kc C) (hL:L=(m:Int)) (hC:C=(m:Int)) (b2:i.bytes*m≤281474976710656) (b3:m≤maxLen) (b4:base≤w.heap.size)
 (hK:∀ w',w'.ownsRow base e size (.slice (some ⟨w.heap.size,0,none⟩) m m) m (madeCells z.cells (m*size)).toList→w.grownBy w' none→wpListIn F n P ops Q rest (a.put o.dst (.slice (some ⟨w.heap.size,0,none⟩) m m)) w') :
 wpListIn F n P ops Q (o::rest) a w:=by
 refine wpListIn_plain hg fun K hK'=>?_
 obtain ⟨w',hrun,r1,r2⟩:=run_make_full (P:=P) w base t e i z size h1 h2 h3 h4 kl kc m b2 b3 b4
 subst hL
 subst hC
 unfold Oper.wpIn
 refine ⟨?_,?_⟩
 ·simp [Oper.about,hop]
 ·rw [Oper.semAt_plain F _ _ (by rw [hop];intro c hc';cases hc')]
  simp [execOp,hop,hl,hc,hrun,Result.andThen]
  exact hK' _ _ (hK w' r1 r2)
end Go.Proofs.YtkkenfhlgpjmjaaGreatDoor
namespace Go.Proofs.YtkkenfhlgpjmjaaGreatDoor
set_option maxRecDepth 100000
open Go.RowKit Go.Shelf Go.Maps
set_option linter.unusedVariables false
theorem owns_turn {W W':World} {row:Option Nat} {B e k n:Nat} {v:Value} {xs:List Value} (h:W.ownsRow B e k v n xs) (hg:W.grownBy W' row) (hr:∀ r,row=some r→∃ o:Obj,W.heap[r]?=some o∧o.isCells=false):W'.ownsRow B e k v n xs:=by
 refine h.kept hg ?_
 rcases h.2 with ⟨rfl,_⟩ | ⟨g,cap,cur,rfl,_,hgb,_⟩
 ·exact .inl rfl
 ·refine .inr (fun e=>?_)
  obtain ⟨o,ho,hc⟩:=hr g (by rw [← e];rfl)
  rw [hgb] at ho
  cases ho
  cases hc
theorem keeps_row {W W':World} {B e k n:Nat} {v:Value} {xs:List Value} (h:W.ownsRow B e k v n xs) (hg:W.grownBy W' v.ownBlock):KeepsOthers W W' :=
 KeepsOthers.of_grownBy hg (fun j o ej hj=>by
  rcases h.2 with ⟨rfl,_⟩ | ⟨g,cap,cur,rfl,_,hgb,_⟩
  ·simp [Value.ownBlock] at ej
  ·obtain rfl:g=j:=by simpa [Value.ownBlock] using ej
   rw [hgb] at hj
   cases hj
   rfl)
end Go.Proofs.YtkkenfhlgpjmjaaGreatDoor
namespace Go.Proofs.YtkkenfhlgpjmjaaGreatDoor
set_option maxRecDepth 100000
open Go.RowKit
set_option linter.unusedVariables false
section
variable {P:Program} {ops:Array Oper} {md:Region.Mode} {Q:Exit→Act→World→Prop}
theorem opW_of {n:Nat} {o:Oper} {a:Act} {w:World} {K:Act→World→Prop} (hnd:∀ c,o.op≠.defer c) (h:o.wp P a w K Q):o.wpIn Fence.wide n P a w K Q:=by
 unfold Oper.wpIn
 refine ⟨fun _ _=>trivial,?_⟩
 rw [show Fence.wide.round=none from rfl,show Oper.semAt none a.eval o=execOp a.eval o by unfold Oper.semAt;cases ho:o.op<;>first | rfl | exact absurd ho (hnd _)]
 unfold Oper.wp at h
 generalize (execOp a.eval o).run P w=r at *
 cases r with
 | ok n w' =>
   cases n<;>simp only [Oper.upon,Oper.uponIn] at h ⊢
   case value u=>exact h
   case skip=>exact h
   case defer d=>exact h
   case enter f args=>exact ⟨fun h0=>(by cases h0),callsIn_wide.2 h⟩
   case row row args=>exact ⟨fun h0=>(by cases h0),fun c cs _=>let ⟨v,w',r,s⟩:=h c cs;⟨v,w',r,stepsIn_wide.2 s⟩⟩
 | halt x w' =>
   cases x<;>simp only [Oper.upon,Oper.uponIn] at h ⊢
   case panic u=>exact h
theorem anyW_of {n:Nat} (hlo:¬ LetsOut Q) (hnd:noDefer ops=true):∀ (f:Nat) (listed:Array Bool) (a:Act) (w:World),wpAny P md ops Q f listed a w→wpAnyIn Fence.wide n P md ops Q f listed a w
 | 0,_,_,_,h=>h
 | f+1,listed,a,w,h=>by
   refine ⟨h.1,fun i hi=>?_⟩
   have h1:=h.2 i hi
   unfold wpOp at h1
   unfold wpOpIn
   cases ho:ops[i]? with
   | none=>simp only [ho] at h1 ⊢;exact anyW_of hlo hnd f _ _ _ h1
   | some o =>
     simp only [ho] at h1 ⊢
     by_cases hw:Region.wanted o (yielded ops a.tmps)=true
     ·rw [if_pos hw] at h1 ⊢
      rcases h1 with h1 | h1
      ·exact Oper.wpIn_mono (fun a' w' h'=>anyW_of hlo hnd f _ a' w' h') (opW_of (noDefer_spec hnd i o ho) h1)
      ·exact absurd h1.2 hlo
     ·rw [if_neg hw] at h1 ⊢
      exact ⟨fun _ _=>trivial,anyW_of hlo hnd f _ _ _ h1⟩
theorem regionW_any {n id:Nat} {a:Act} {w:World} (hm:P.follows .mixedOrders=true) (hlo:¬ LetsOut Q) (hnd:noDefer ops=true)
 (h:wpAny P .any ops Q ops.size (Array.replicate ops.size false) a w.drew):(Code.region id ops true).wpIn Fence.wide n P Q a w :=
 wpIn_region_any hm (anyW_of hlo hnd _ _ _ _ h)
def calmQ (Q:Exit→Act→World→Prop):Exit→Act→World→Prop
 | .panic _,_,_=>False
 | .outgrown,_,_=>False
 | .normal,a,w=>Q .normal a w
 | .ret,a,w=>Q .ret a w
 | .exit id,a,w=>Q (.exit id) a w
 | .goto t,a,w=>Q (.goto t) a w
theorem calm_normal {a:Act} {w:World} (h:Q .normal a w):calmQ Q .normal a w:=h
theorem calm_le:∀ (e:Exit) (a:Act) (w:World),calmQ Q e a w→Q e a w
 | .panic _,_,_,h=>h.elim
 | .outgrown,_,_,h=>h.elim
 | .normal,_,_,h=>h
 | .ret,_,_,h=>h
 | .exit _,_,_,h=>h
 | .goto _,_,_,h=>h
theorem regionW_calm {n id:Nat} {a:Act} {w:World} (hm:P.follows .mixedOrders=true) (hnd:noDefer ops=true)
 (h:wpAny P .any ops (calmQ Q) ops.size (Array.replicate ops.size false) a w.drew):(Code.region id ops true).wpIn Fence.wide n P Q a w :=
 Code.wpIn_mono calm_le (regionW_any hm (fun ⟨_,_,h⟩=>h) hnd h)
end
end Go.Proofs.YtkkenfhlgpjmjaaGreatDoor
namespace Go.Proofs.YtkkenfhlgpjmjaaGreatDoor
set_option maxRecDepth 100000
open Go.RowKit
set_option linter.unusedVariables false
attribute [local go_sem] ba_size
theorem pends_any (y0 y1:Int) (y2 y3:List UInt8) (w:World) :
 Calls Tryz.prog 195 #[.agg #[.int .i64 y0,.int .i64 y1,.string ⟨y2.toArray⟩,.string ⟨y3.toArray⟩]] w fun e w'=>e=.returned (.bool (decide (y0=4∨y0=5)))∧Below w.heap.size w w':=by
 have B:=fun o=>(Below.refl w.heap.size w).alloc (Nat.le_refl _) o
 by_cases d4:y0=4
 ·have e4:(y0==4)=true:=by rw [d4];rfl
  rw [decide_eq_true (show _∨_ from Or.inl d4)]
  clear d4
  go_enter Tryz.func195,Tryz.ntmps195
  go_wp2_with fail
  go_ret
  exact ⟨rfl,B _⟩
 ·have e4:(y0==4)=false:=beq_eq_false_iff_ne.2 d4
  by_cases d5:y0=5
  ·have e5:(y0==5)=true:=by rw [d5];rfl
   rw [decide_eq_true (show _∨_ from Or.inr d5)]
   clear d4 d5
   go_enter Tryz.func195,Tryz.ntmps195
   go_wp2_with fail
   go_ret
   exact ⟨rfl,B _⟩
  ·have e5:(y0==5)=false:=beq_eq_false_iff_ne.2 d5
   rw [decide_eq_false (show ¬ (_∨_) from fun h=>h.elim d4 d5)]
   clear d4 d5
   go_enter Tryz.func195,Tryz.ntmps195
   go_wp2_with fail
   go_ret
   exact ⟨rfl,B _⟩
theorem pwrites_any (y0 y1:Int) (y2 y3 key:List UInt8) (w:World) :
 Calls Tryz.prog 231 #[.agg #[.int .i64 y0,.int .i64 y1,.string ⟨y2.toArray⟩,.string ⟨y3.toArray⟩],.string ⟨key.toArray⟩] w fun e w'=>e=.returned (.bool (decide (y0=3∧y2=key)))∧Below w.heap.size w w':=by
 have B:=fun o=>(Below.refl w.heap.size w).alloc (Nat.le_refl _) o
 by_cases d3:y0=3
 ·have e3:(y0==3)=true:=by rw [d3];rfl
  by_cases dk:y2=key
  ·have ek:(y2==key)=true:=by rw [dk];exact beq_self_eq_true _
   rw [decide_eq_true (show _∧_ from ⟨d3,dk⟩)]
   clear d3 dk
   go_enter Tryz.func231,Tryz.ntmps231
   go_wp2_with fail
   go_ret
   exact ⟨rfl,B _⟩
  ·have ek:(y2==key)=false:=beq_eq_false_iff_ne.2 dk
   rw [decide_eq_false (show ¬ (_∧_) from fun h=>dk h.2)]
   clear d3 dk
   go_enter Tryz.func231,Tryz.ntmps231
   go_wp2_with fail
   go_ret
   exact ⟨rfl,B _⟩
 ·have e3:(y0==3)=false:=beq_eq_false_iff_ne.2 d3
  rw [decide_eq_false (show ¬ (_∧_) from fun h=>d3 h.1)]
  clear d3
  go_enter Tryz.func231,Tryz.ntmps231
  go_wp2_with fail
  go_ret
  exact ⟨rfl,B _⟩
set_option maxHeartbeats 1000000 in
theorem pwriter1_any (y0 y1:Int) (y2 y3 key val:List UInt8) (bk bv:Nat) (W:World) (Kk:Boxed W bk 9 (.string ⟨key.toArray⟩)) (Kv:Boxed W bv 9 (.string ⟨val.toArray⟩)) :
 Calls Tryz.prog 230 #[.agg #[.int .i64 y0,.int .i64 y1,.string ⟨y2.toArray⟩,.string ⟨y3.toArray⟩],.pointer (some ⟨bk,0,none⟩),.pointer (some ⟨bv,0,none⟩)] W fun e w'=>e=.returned (.bool (decide (y0=3∧y2=key∧y3=val)))∧Below W.heap.size W w':=by
 have B:=fun o=>(Below.refl W.heap.size W).alloc (Nat.le_refl _) o
 have C:=fun V=>pwrites_any y0 y1 y2 y3 key V
 have c0:=(Kk.alloc (.cells #[.int .i64 y0,.int .i64 y1,.string ⟨y2.toArray⟩,.string ⟨y3.toArray⟩] 64)).cell
 by_cases d3:y0=3∧y2=key
 ·rw [decide_eq_true d3] at C
  by_cases dv:y3=val
  ·have ev:(y3==val)=true:=by rw [dv];exact beq_self_eq_true _
   rw [decide_eq_true (show _∧_∧_ from ⟨d3.1,d3.2,dv⟩)]
   clear d3 dv
   go_enter Tryz.func230,Tryz.ntmps230
   go_wp2_with fail
   refine (C _).mono ?_
   rintro e w1 ⟨rfl,b1⟩
   have k2:=boxed_below7 (Kv.alloc (.cells #[.int .i64 y0,.int .i64 y1,.string ⟨y2.toArray⟩,.string ⟨y3.toArray⟩] 64)) b1
   have x3:=(SBox.new W 64 #[.int .i64 y0,.int .i64 y1,.string ⟨y2.toArray⟩,.string ⟨y3.toArray⟩]).below b1
   have v3:=x3.cell 3 _ rfl
   have v2:=k2.cell
   go_wp2_with fail
   go_ret
   exact ⟨rfl,bel_trans (B _) b1⟩
  ·have ev:(y3==val)=false:=beq_eq_false_iff_ne.2 dv
   rw [decide_eq_false (show ¬ (_∧_∧_) from fun h=>dv h.2.2)]
   clear d3 dv
   go_enter Tryz.func230,Tryz.ntmps230
   go_wp2_with fail
   refine (C _).mono ?_
   rintro e w1 ⟨rfl,b1⟩
   have k2:=boxed_below7 (Kv.alloc (.cells #[.int .i64 y0,.int .i64 y1,.string ⟨y2.toArray⟩,.string ⟨y3.toArray⟩] 64)) b1
   have x3:=(SBox.new W 64 #[.int .i64 y0,.int .i64 y1,.string ⟨y2.toArray⟩,.string ⟨y3.toArray⟩]).below b1
   have v3:=x3.cell 3 _ rfl
   have v2:=k2.cell
   go_wp2_with fail
   go_ret
   exact ⟨rfl,bel_trans (B _) b1⟩
 ·rw [decide_eq_false d3] at C
  rw [decide_eq_false (show ¬ (_∧_∧_) from fun h=>d3 ⟨h.1,h.2.1⟩)]
  clear d3
  go_enter Tryz.func230,Tryz.ntmps230
  go_wp2_with fail
  refine (C _).mono ?_
  rintro e w1 ⟨rfl,b1⟩
  have k2:=boxed_below7 (Kv.alloc (.cells #[.int .i64 y0,.int .i64 y1,.string ⟨y2.toArray⟩,.string ⟨y3.toArray⟩] 64)) b1
  have x3:=(SBox.new W 64 #[.int .i64 y0,.int .i64 y1,.string ⟨y2.toArray⟩,.string ⟨y3.toArray⟩]).below b1
  have v3:=x3.cell 3 _ rfl
  have v2:=k2.cell
  go_wp2_with fail
  go_ret
  exact ⟨rfl,bel_trans (B _) b1⟩
theorem pwritten1_any (y0 y1:Int) (y2 y3 val:List UInt8) (bv:Nat) (W:World) (Kv:Boxed W bv 9 (.string ⟨val.toArray⟩)) :
 Calls Tryz.prog 241 #[.agg #[.int .i64 y0,.int .i64 y1,.string ⟨y2.toArray⟩,.string ⟨y3.toArray⟩],.pointer (some ⟨bv,0,none⟩)] W fun e w'=>e=.returned (.bool (decide (y0=3∧y3=val)))∧Below W.heap.size W w':=by
 have B:=fun o=>(Below.refl W.heap.size W).alloc (Nat.le_refl _) o
 have c0:=(Kv.alloc (.cells #[.int .i64 y0,.int .i64 y1,.string ⟨y2.toArray⟩,.string ⟨y3.toArray⟩] 64)).cell
 by_cases d3:y0=3
 ·have e3:(y0==3)=true:=by rw [d3];rfl
  by_cases dk:y3=val
  ·have ek:(y3==val)=true:=by rw [dk];exact beq_self_eq_true _
   rw [decide_eq_true (show _∧_ from ⟨d3,dk⟩)]
   clear d3 dk
   go_enter Tryz.func241,Tryz.ntmps241
   go_wp2_with fail
   go_ret
   exact ⟨rfl,B _⟩
  ·have ek:(y3==val)=false:=beq_eq_false_iff_ne.2 dk
   rw [decide_eq_false (show ¬ (_∧_) from fun h=>dk h.2)]
   clear d3 dk
   go_enter Tryz.func241,Tryz.ntmps241
   go_wp2_with fail
   go_ret
   exact ⟨rfl,B _⟩
 ·have e3:(y0==3)=false:=beq_eq_false_iff_ne.2 d3
  rw [decide_eq_false (show ¬ (_∧_) from fun h=>d3 h.1)]
  clear d3
  go_enter Tryz.func241,Tryz.ntmps241
  go_wp2_with fail
  go_ret
  exact ⟨rfl,B _⟩
open Go.RowKit Go.Shelf
attribute [local go_sem] Oper.semAt_some ba_size
set_option maxHeartbeats 2000000 in
theorem counts14_no (h:List Ev) (v:Value) (w:World) (hT:IsEvs w v h) (q:Nat) (hq:q < h.length) (hR:(ev h q).1≠2) :
 Calls Tryz.prog 281 #[v,.int .i64 (q:Int)] w fun e w'=>e=.returned (.bool false)∧Below w.heap.size w w':=by
 obtain ⟨a,cap,rfl,h1,h2,h3,HC⟩:=hT.reads
 obtain ⟨bb,off,rfl,HQ⟩:=HC.out (by omega)
 obtain ⟨c0,c1,_,_⟩:=HQ.out q hq _ (Below.refl _ _)
 obtain ⟨⟨x0,x1,x2,x3⟩,hx⟩:∃ x,ev h q=x:=⟨_,rfl⟩
 rw [hx] at c0 c1 hR
 simp only at c0 c1 hR
 have e2:(x0 != 2)=true:=bne_iff_ne.2 hR
 obtain ⟨n,hn⟩:∃ n,h.length=n:=⟨_,rfl⟩
 rw [hn] at h1 h3 hq ⊢
 have j1:¬ (n:Int)≤(q:Int):=by omega
 have j11:¬ n≤q:=by omega
 clear hT hn HC HQ hx hR
 go_enter Tryz.func281,Tryz.ntmps281
 go_wp2_with fail
 go_ret
 exact ⟨rfl,Below.refl _ _⟩
set_option maxHeartbeats 2000000 in
theorem at14_no (h:List Ev) (v:Value) (w:World) (hT:IsEvs w v h) (q:Nat) (hq:q < h.length) (hR:(ev h q).1≠2) :
 Calls Tryz.prog 244 #[v,.int .i64 (q:Int)] w fun e w'=>e=.returned (badA (0,0,0))∧Below w.heap.size w w':=by
 have R0:=SBox.new w 25 #[.int .i64 0,.int .i64 0,.int .i64 0]
 have B0:=(Below.refl w.heap.size w).alloc (Nat.le_refl _) (.cells #[.int .i64 0,.int .i64 0,.int .i64 0] 25)
 have C:=counts14_no h v _ (hT.below B0) q hq hR
 obtain ⟨a,cap,rfl,_⟩:=hT.some_at
 obtain ⟨n,hn⟩:∃ n,h.length=n:=⟨_,rfl⟩
 rw [hn] at C ⊢
 clear hT hn hR
 go_enter Tryz.func244,Tryz.ntmps244
 go_wp2_with fail
 refine C.mono ?_
 rintro e w1 ⟨rfl,b1⟩
 have R1:=R0.below b1
 have B1:=bel_trans B0 b1
 have c0:=R1.cell 0 _ rfl
 have c1:=R1.cell 1 _ rfl
 have c2:=R1.cell 2 _ rfl
 have g0:=R1.frozen 0
 have g1:=R1.frozen 1
 have g2:=R1.frozen 2
 go_wp2_with fail
 exact bodyPost_ret (v:=.agg #[.int .i64 0,.int .i64 0,.int .i64 0]) (results_row1 Tryz.results244 _ _ w.heap.size 25 _ (0,0) _ rfl (R1.put3 (.int .i64 0) (.int .i64 0) (.int .i64 0)) Tryz.underlying25 rfl size_bad) rfl ⟨rfl,bel_put3 B1 (Nat.le_refl _) _ _ _⟩
set_option maxHeartbeats 2000000 in
theorem outer14_no (h:List Ev) (v:Value) (w:World) (hT:IsEvs w v h) (q:Nat) (hq:q < h.length) (hR:(ev h q).1≠2) :
 Calls Tryz.prog 250 #[v,.int .i64 (q:Int)] w fun e w'=>e=.returned (.bool false)∧Below w.heap.size w w':=by
 have C:=counts14_no h v w hT q hq hR
 obtain ⟨a,cap,rfl,_⟩:=hT.some_at
 obtain ⟨n,hn⟩:∃ n,h.length=n:=⟨_,rfl⟩
 rw [hn] at C ⊢
 clear hT hn hR
 go_enter Tryz.func250,Tryz.ntmps250
 go_wp2_with fail
 refine C.mono ?_
 rintro e w1 ⟨rfl,b1⟩
 go_wp2_with fail
 go_ret
 exact ⟨rfl,b1⟩
abbrev badsF14 (b:Nat):Value:=.func (.func 243) #[] #[.pointer (some ⟨b,0,none⟩)]
theorem bads14_any (a:Option Addr) (n cap:Nat) (w:World) :
 Calls Tryz.prog 196 #[.slice a n cap] w fun e w'=>e=.returned (badsF14 w.heap.size)∧w'=w.alloc (.cells #[.slice a n cap] 22):=by
 go_enter Tryz.func196,Tryz.ntmps196
 go_wp2_with fail
 go_ret
 exact ⟨rfl,rfl⟩
set_option maxHeartbeats 2000000 in
theorem bads14_in (l:Nat) (h:List Ev) (w0:World) (a:Option Addr) (cap:Nat) (hT:IsEvs w0 (.slice a h.length cap) h) (hR:∀ q,q < h.length→(ev h q).1≠2) (bh k:Nat) (J:List Bd→World→Prop)
 (hJ:∀ pre W W',J pre W→Below W.heap.size W W'→J pre W')
 (W:World) (hW:Below w0.heap.size w0 W) (hbox:Boxed W bh 22 (.slice a h.length cap)) (h0:J [] W) :
 CallsIn Fence.wide k Tryz.prog 243 #[.func (.yield l) #[] #[],.pointer (some ⟨bh,0,none⟩)] W fun e W'=>(∃ v,e=.returned v)∧J [] W':=by
 have hdd:∀ k:Nat,(Fence.wide.depth.isSome=true→1≤k):=fun k h=>by cases h
 have CA:=fun (i:Nat) (hi:i < h.length) V hV=>at14_no h (.slice a h.length cap) V (hT.below (w':=V) hV) i hi (hR i hi)
 obtain ⟨a',cap',e1,h1,h2,h3,HC⟩:=hT.some_at
 obtain ⟨rfl,rfl⟩:a'=a∧cap'=cap:=by simpa [eq_comm] using e1
 clear e1 hT HC hR
 have c0:=hbox.cell
 obtain ⟨n,hn⟩:∃ n,h.length=n:=⟨_,rfl⟩
 rw [hn] at h1 h3 c0 CA hbox
 clear hn
 refine callsIn_of_wp Tryz.func243 rfl trivial ?_ rfl
 simp only [Tryz.ntmps243,List.size_toArray,List.length_cons,List.length_nil,Nat.reduceAdd,Nat.reduceSub,Array.replicate_succ,Array.replicate_zero,List.push_toArray,List.append_toArray,List.nil_append,List.cons_append]
 gi_wp2
 gi_loopw [7] (fun i wr=>∃ k:Nat,k≤n∧i=.int .i64 k∧J [] wr∧Below w0.heap.size w0 wr∧Boxed wr bh 22 (.slice a' n cap')) (fun i _=>n - (RowKit.intOf i).toNat)
 case atStart=>exact ⟨0,Nat.zero_le _,rfl,h0,hW,hbox⟩
 case round =>
  obtain ⟨k',hk,rfl,hJ0,hB,hbx⟩:=hrel
  have c1:=hbx.cell
  by_cases hlt:k' < n
  ·have C:=CA k' hlt wr hB
   have i0:(k':Int) < (n:Int):=by omega
   gi_wp2
   refine ⟨trivial,hdd _,?_⟩
   refine (callsIn_wide.2 C).mono ?_
   rintro e W1 ⟨rfl,b1⟩
   have X1:=SBox.new W1 25 #[.int .i64 0,.int .i64 0,.int .i64 0]
   have y0:=X1.cell 0 _ rfl
   have y1:=X1.cell 1 _ rfl
   have y2:=X1.cell 2 _ rfl
   have b2:=b1.alloc b1.size (.cells #[.int .i64 0,.int .i64 0,.int .i64 0] 25)
   have HJ1:=Lib.hid (hJ _ _ _ hJ0 b2)
   have HB1:=hB.trans (b2.mono hB.size)
   have hbx1:=boxed_below7 hbx b2
   gi_wp2
   refine ⟨fun f e=>(by cases e),?_⟩
   gi_wp2
   go_roundw
   case rel=>exact ⟨k'+1,by omega,by first | go_num | simp,HJ1.out,HB1,hbx1⟩
   case measure=>simp [RowKit.intOf];omega
  ·obtain rfl:k'=n:=by omega
   gi_wp2
   go_end0
   exact ⟨⟨_,rfl⟩,hJ0⟩
theorem bads14_stops (h:List Ev) (w0:World) (a:Option Addr) (cap:Nat) (hT:IsEvs w0 (.slice a h.length cap) h) (hR:∀ q,q < h.length→(ev h q).1≠2) (bh k:Nat) (w:World) (hW:Below w0.heap.size w0 w) (hbox:Boxed w bh 22 (.slice a h.length cap)) :
 SeqStopsK Fence.wide k Tryz.prog 243 #[.pointer (some ⟨bh,0,none⟩)] (fun x:Bd=>#[badA x]) (KpE w0.heap.size bh) (fun ys=>ys=[]) (fun pre=>False) 0 w :=
 fun l J Jx W hb hJ _ hY h0=>(bads14_in l h w0 a cap hT hR bh k J (fun pre V V' hj hbb=>hJ pre V V' none hj (grown_below8 none hbb) (fun r e=>by cases e)) W (hW.trans (hb.mono hW.size)) (boxed_below7 hbox hb) h0).mono fun e W' ⟨h1,h2⟩=>⟨h1,.inl ⟨[],rfl,h2⟩⟩
theorem results_cell14 {P:Program} {fn:Func} {p q:Tmp} {ty t2:TypeId} (h:fn.results=#[.cell p ty,.cell q t2]) (tmps:Array Value) (w:World) (g:Nat) (t:TypeId) (cs:Array Value) (fr:Nat × Nat) (d:TypeDesc)
 (hp:tmps.getD p undef=.pointer (some ⟨g,0,none⟩)) (hg:w.heap[g]?=some (.cells cs t fr))
 (hu:P.underlying ty=some d) (hd:(match d with | .struct _ | .array _ _=>true | _=>false)=true) (hi:(P.info? ty).map (·.size)=some cs.size)
 (v:Value) (hv:((asAddr (tmps.getD q undef)).run P w).andThen (fun a w₁=>((loadVar t2 a).run P w₁))=Result.ok v w) :
 (results fn tmps).run P w=.ok (.tuple #[.agg cs,v]) w:=by
 have hp':tmps[p]?.getD undef=.pointer (some ⟨g,0,none⟩):=by simpa using hp
 have hv':((asAddr (tmps[q]?.getD undef)).run P w).andThen (fun a w₁=>((loadVar t2 a).run P w₁))=Result.ok v w:=by simpa using hv
 cases hq:(asAddr (tmps[q]?.getD undef)).run P w with
 | ok b w2 =>
   rw [hq] at hv'
   simp only [Result.andThen] at hv'
   simp [results,h,hp',asAddr,run_loadVar_row w g t ty cs fr d hg hu hd hi]
   simp only [asAddr] at hq
   simp [hq,hv']
 | _=>rw [hq] at hv';simp [Result.andThen] at hv'
structure TS14 (w:World) (x:Bd) (th:Bool) (sl:Value) (W:World):Prop where
 below:Below w.heap.size w W
 size:w.heap.size+1+1+1≤W.heap.size
 r1:SBox W (w.heap.size) 25 #[.int .i64 x.1,.int .i64 x.2.1,.int .i64 x.2.2]
 r2:Boxed W (w.heap.size+1) 4 (.bool th)
 be:Boxed W (w.heap.size+1+1) 22 (sl)
theorem TS14.bel {w:World} {x:Bd} {th:Bool} {sl:Value} {W W':World} (h:TS14 w x th sl W) (hb:Below (w.heap.size+1+1+1) W W'):TS14 w x th sl W' :=
 ⟨h.below.trans (hb.mono (by omega)),Nat.le_trans h.size hb.size,sbox_bel h.r1 hb (by omega),boxed_bel h.r2 hb (by omega),boxed_bel h.be hb (by omega)⟩
theorem TS14.put {w:World} {x:Bd} {th:Bool} {sl:Value} {W:World} (h:TS14 w x th sl W) (y:Bd) (b:Bool):TS14 w y b sl ((((W.setCell ⟨w.heap.size,0,none⟩ (.int .i64 y.1)).setCell ⟨w.heap.size,1,none⟩ (.int .i64 y.2.1)).setCell ⟨w.heap.size,2,none⟩ (.int .i64 y.2.2)).setCell ⟨w.heap.size+1,0,none⟩ (.bool b)):=by
 have o:∀ c,c≠w.heap.size→c≠w.heap.size+1→((((W.setCell ⟨w.heap.size,0,none⟩ (.int .i64 y.1)).setCell ⟨w.heap.size,1,none⟩ (.int .i64 y.2.1)).setCell ⟨w.heap.size,2,none⟩ (.int .i64 y.2.2)).setCell ⟨w.heap.size+1,0,none⟩ (.bool b)).heap[c]?=W.heap[c]?:=fun c h3 h4=>by
  rw [Below.heap_setCell _ _ _ c h4,Below.heap_setCell _ _ _ c h3,Below.heap_setCell _ _ _ c h3,Below.heap_setCell _ _ _ c h3]
 have h4:Boxed (((W.setCell ⟨w.heap.size,0,none⟩ (.int .i64 y.1)).setCell ⟨w.heap.size,1,none⟩ (.int .i64 y.2.1)).setCell ⟨w.heap.size,2,none⟩ (.int .i64 y.2.2)) (w.heap.size+1) 4 (.bool th):=by
  show _=_
  rw [Below.heap_setCell _ _ _ _ (by simp),Below.heap_setCell _ _ _ _ (by simp),Below.heap_setCell _ _ _ _ (by simp)]
  exact h.r2
 exact ⟨(bel_put3 h.below (Nat.le_refl _) _ _ _).setCell (p:=⟨w.heap.size+1,0,none⟩) (by simp) _,by simp;exact h.size,(h.r1.put3 (.int .i64 y.1) (.int .i64 y.2.1) (.int .i64 y.2.2)).other (w.heap.size+1) 0 (.bool b) (by omega),h4.set _,(o _ (by omega) (by omega)).trans h.be⟩
set_option maxHeartbeats 2000000 in
theorem first14_no (h:List Ev) (v:Value) (w:World) (hT:IsEvs w v h) (hR:∀ q,q < h.length→(ev h q).1≠2) :
 Calls Tryz.prog 138 #[v] w fun e w'=>e=.returned (.tuple #[badA (0,0,0),.bool false])∧Below w.heap.size w w':=by
 have hT0:=hT
 obtain ⟨a,cap,rfl,h1,h2,h3,HC⟩:=hT.some_at
 clear HC hT
 refine (callsIn_wide (n:=3)).1 ?_
 refine callsIn_of_wp_marks Tryz.func138 rfl trivial ?_ rfl
 simp only [Tryz.ntmps138,List.size_toArray,List.length_cons,List.length_nil,Nat.reduceAdd,Nat.reduceSub,Array.replicate_succ,Array.replicate_zero,List.push_toArray,List.append_toArray,List.nil_append,List.cons_append]
 gi_wp2_with ((try refine ⟨trivial,?_⟩);gi_at_call 196;refine (callsIn_wide.2 (bads14_any _ _ _ _)).mono ?_;rintro e w2 ⟨rfl,rfl⟩)
 have hS0:TS14 w (0,0,0) false (.slice a h.length cap) (((w.alloc (.cells #[.int .i64 0,.int .i64 0,.int .i64 0] 25)).alloc (.cells #[.bool false] 4)).alloc (.cells #[.slice a h.length cap] 22)):=by
  have b0:=(((SBox.new w 25 #[.int .i64 0,.int .i64 0,.int .i64 0]).alloc (.cells #[.bool false] 4)).alloc (.cells #[.slice a h.length cap] 22))
  have b1:=((Boxed.new (w.alloc (.cells #[.int .i64 0,.int .i64 0,.int .i64 0] 25)) 4 (.bool false)).alloc (.cells #[.slice a h.length cap] 22))
  have b2:=(Boxed.new ((w.alloc (.cells #[.int .i64 0,.int .i64 0,.int .i64 0] 25)).alloc (.cells #[.bool false] 4)) 22 (.slice a h.length cap))
  (try simp only [World.size_alloc] at b0 b1 b2)
  exact ⟨((((Below.refl _ w).alloc (by first | exact Nat.le_refl _ | (simp only [World.size_alloc];omega)) _).alloc (by first | exact Nat.le_refl _ | (simp only [World.size_alloc];omega)) _).alloc (by first | exact Nat.le_refl _ | (simp only [World.size_alloc];omega)) _),(by simp),b0,b1,b2⟩
 obtain ⟨W0,hW0⟩:∃ W0,(((w.alloc (.cells #[.int .i64 0,.int .i64 0,.int .i64 0] 25)).alloc (.cells #[.bool false] 4)).alloc (.cells #[.slice a h.length cap] 22))=W0:=⟨_,rfl⟩
 have sW0:W0.heap.size=w.heap.size+1+1+1:=by rw [← hW0];simp
 change Code.wpIn _ _ _ _ _ _ (((w.alloc (.cells #[.int .i64 0,.int .i64 0,.int .i64 0] 25)).alloc (.cells #[.bool false] 4)).alloc (.cells #[.slice a h.length cap] 22))
 rw [hW0] at hS0 ⊢
 clear hW0
 (try refine wpIn_block ?_)
 refine wpIn_rangeFunc_ownH rfl (by omega) (gf:=243) (lb:=#[.pointer (some ⟨w.heap.size+1+1,0,none⟩)]) rfl trivial (enters_of Tryz.func243 (by kernel_rfl) rfl)
  (bads14_stops h w a cap hT0 hR (w.heap.size+1+1) (3 - 1) W0 hS0.below hS0.be) (fun h k=>kpE_t h k) (kpE_b (by omega) (by omega)) (Below.refl _ _) (fun _=>rfl)
  (fun pre W=>pre=[]∧TS14 w (0,0,0) false (.slice a h.length cap) W) (fun _ _ _=>False)
  (ownFrom_of_below (fun _ W ⟨_,h1⟩=>by rw [sW0];exact h1.size) (fun _ W W' ⟨e,h1⟩ hb=>⟨e,h1.bel (by rw [sW0] at hb;exact hb)⟩))
  (fun _=>ownFrom_false _)
  ⟨rfl,hS0⟩
  (fun x a' W=>∃ Bx,w.heap.size+1+1 < Bx∧SBox W Bx 25 #[.int .i64 x.1,.int .i64 x.2.1,.int .i64 x.2.2]∧a'={ tmps:=#[.slice a h.length cap,undef,.pointer (some ⟨w.heap.size,0,none⟩),.pointer (some ⟨w.heap.size+1,0,none⟩),.pointer (some ⟨Bx,0,none⟩),.slice a h.length cap,badsF14 (w.heap.size+1+1),badA x,undef,undef],defers:=[] })
  (fun x a' _ A B row hs hg hr=>by
   obtain ⟨Bx,h1,h2,h4⟩:=hs
   exact ⟨Bx,h1,block_kept h2 hg (fun r e=>(hr r e).2),h4⟩)
  ?assign ?body ?done ?stop
 case assign =>
  rintro l pre x W K ⟨hp,hS⟩ hK
  have hsz:=hS.size
  gi_wp2
  refine hK _ _ ((KeepsOthers.alloc _ _).from _) ⟨(Below.refl _ W).alloc (by omega) _,Below.heap_alloc W _ _ (by omega)⟩ ⟨hp,hS.bel ((Below.refl _ W).alloc hsz _)⟩ ⟨W.heap.size,by omega,SBox.new W _ _,rfl⟩
 case body =>
  rintro l pre x a' W hl hrec hS hax hlt
  exact absurd hlt (Nat.not_lt_zero _)
 case done =>
  rintro D ys W hD hys ⟨rfl,hS⟩ hK
  have HD:Hid (w.heap.size+1+1+1≤D):=by rw [sW0] at hD;exact hD
  clear sW0 hS0 hD hys
  have c0:=hS.r1.cell 0 _ rfl
  have c1:=hS.r1.cell 1 _ rfl
  have c2:=hS.r1.cell 2 _ rfl
  have g0:=hS.r1.frozen 0
  have g1:=hS.r1.frozen 1
  have g2:=hS.r1.frozen 2
  have k0:=hS.r2.cell
  have k1:=hS.r2.frozen
  have hS2:=hS.put (0,0,0) false
  have HS2:=Lib.hid hS2
  have HK:Hid (((((W.setCell ⟨w.heap.size,0,none⟩ (.int .i64 0)).setCell ⟨w.heap.size,1,none⟩ (.int .i64 0)).setCell ⟨w.heap.size,2,none⟩ (.int .i64 0)).setCell ⟨w.heap.size+1,0,none⟩ (.bool false)).heap[D]?=some (.deferred (some []))):=((((KeepsOthers.setCell W _ _).trans (KeepsOthers.setCell _ _ _)).trans (KeepsOthers.setCell _ _ _)).trans (KeepsOthers.setCell _ _ _)).same D _ hK rfl
  clear hS2
  gi_wp2
  have hK':=HK.out
  have hS2:=HS2.out
  refine ⟨by simp,.inl ⟨_,_,rfl,run_takeDeferred hK',?_⟩⟩
  have d1:=cell_kept hS2.r2.cell (grownBy_putObj' _ D (.deferred none)) (fun r e=>by cases e;exact ⟨_,hK',rfl⟩)
  refine ⟨.tuple #[badA (0,0,0),.bool false],results_cell14 Tryz.results138 _ _ w.heap.size 25 _ (0,0) _ rfl (block_kept hS2.r1 (grownBy_putObj' _ D (.deferred none)) (fun r e=>by cases e;exact ⟨_,hK',rfl⟩)) Tryz.underlying25 rfl size_bad _ (by simp [go_sem,d1]),rfl,hS2.below.trans (belowK_b (w:=w) (Nat.le_refl _) _ D _ _ (by have:=HD.out;omega) hK' rfl rfl)⟩
 case stop =>
  rintro D c pre W hD hSp h hK
  exact h.elim
end Go.Proofs.YtkkenfhlgpjmjaaGreatDoor
namespace Go.Proofs.YtkkenfhlgpjmjaaGreatDoor
set_option maxRecDepth 100000
open Go.RowKit Go.Shelf
set_option linter.unusedVariables false
attribute [local go_sem] Oper.semAt_some
abbrev eventsF8 (b:Nat):Value:=.func (.func 192) #[] #[.pointer (some ⟨b,0,none⟩)]
theorem pevents8_any (a:Option Addr) (n cap:Nat) (w:World) :
 Calls Tryz.prog 135 #[.slice a n cap] w fun e w'=>e=.returned (eventsF8 w.heap.size)∧w'=w.alloc (.cells #[.slice a n cap] 22):=by
 go_enter Tryz.func135,Tryz.ntmps135
 go_wp2_with fail
 go_ret
 exact ⟨rfl,rfl⟩
set_option maxHeartbeats 1000000 in
theorem events8_in (l:Nat) (h:List Ev) (w0:World) (a:Option Addr) (cap:Nat) (hT:IsEvs w0 (.slice a h.length cap) h) (bh k:Nat) (J Jx:List (Fin h.length)→World→Prop)
 (hY:∀ pre x W,J pre W→pre.length < h.length→YieldAt Fence.wide (k - 1) Tryz.prog l (ixV h x) W fun e W'=>(e=.returned (.bool true)∧J (pre++[x]) W'∧KpE w0.heap.size bh W W')∨(e=.returned (.bool false)∧Jx (pre++[x]) W'))
 (W:World) (hW:Below w0.heap.size w0 W) (hbox:Boxed W bh 22 (.slice a h.length cap)) (h0:J [] W) :
 CallsIn Fence.wide k Tryz.prog 192 #[.func (.yield l) #[] #[],.pointer (some ⟨bh,0,none⟩)] W fun e W'=>(∃ v,e=.returned v) ∧
  ((∃ ys,ys=List.finRange h.length∧J ys W')∨(∃ pre,pre <+: List.finRange h.length∧Jx pre W')):=by
 have hdd:∀ k:Nat,(Fence.wide.depth.isSome=true→1≤k):=fun k h=>by cases h
 obtain ⟨a',cap',e1,h1,h2,h3,HC⟩:=hT.some_at
 obtain ⟨rfl,rfl⟩:a'=a∧cap'=cap:=by simpa [eq_comm] using e1
 clear e1 hT
 have c0:=hbox.cell
 refine callsIn_of_wp Tryz.func192 rfl trivial ?_ rfl
 simp only [Tryz.ntmps192,List.size_toArray,List.length_cons,List.length_nil,Nat.reduceAdd,Nat.reduceSub,Array.replicate_succ,Array.replicate_zero,List.push_toArray,List.append_toArray,List.nil_append,List.cons_append]
 gi_wp2
 gi_loopw [6] (fun i wr=>∃ k:Nat,k≤h.length∧i=.int .i64 k∧J ((List.finRange h.length).take k) wr∧Below w0.heap.size w0 wr∧Boxed wr bh 22 (.slice a' h.length cap')) (fun i _=>h.length - (RowKit.intOf i).toNat)
 case atStart=>exact ⟨0,Nat.zero_le _,rfl,h0,hW,hbox⟩
 case round =>
  obtain ⟨k',hk,rfl,hJ,hB,hbx⟩:=hrel
  have c1:=hbx.cell
  by_cases hlt:k' < h.length
  ·obtain ⟨bb,off,rfl,hblt,hcell⟩:=HC.out k' hlt
   obtain ⟨p0,p1,p2,p3⟩:=IsEvs.at hlt hcell
   have q0:=(hB.cell (p:=⟨bb,off+k'*4,none⟩) hblt).trans p0
   have q1:=(hB.cell (p:=⟨bb,off+k'*4+1,none⟩) hblt).trans p1
   have q2:=(hB.cell (p:=⟨bb,off+k'*4+2,none⟩) hblt).trans p2
   have q3:=(hB.cell (p:=⟨bb,off+k'*4+3,none⟩) hblt).trans p3
   have hR0:=hY _ ⟨k',hlt⟩ wr hJ (by rw [List.length_take,List.length_finRange];omega)
   rw [← fin_take hlt] at hR0
   obtain ⟨⟨x0,x1,x2,x3⟩,hx⟩:∃ x,h[k']=x:=⟨_,rfl⟩
   simp only [ixV,evW,hx] at hR0
   rw [hx] at q0 q1 q2 q3
   obtain ⟨fn,tmps,assign,body,hy,hR⟩:=hR0
   clear p0 p1 p2 p3 hcell hx
   have i0:(k':Int) < (h.length:Int):=by omega
   gi_wp2
   refine ⟨hdd _,?_⟩
   refine hR.mono ?_
   rintro e W3 (⟨rfl,hJ3,hk3⟩ | ⟨rfl,hJx3⟩)
   ·have hbx3:Boxed W3 bh 22 (.slice (some ⟨bb,off,none⟩) h.length cap'):=hk3.2.trans hbx
    gi_wp2
    go_roundw
    case rel=>exact ⟨k'+1,by omega,by first | go_num | simp,hJ3,hB.trans hk3.1,hbx3⟩
    case measure=>simp [RowKit.intOf];omega
   ·gi_wp2
    refine bodyPost_ret (results_none rfl _ _ _) rfl ?_
    exact ⟨⟨_,rfl⟩,.inr ⟨_,List.take_prefix _ _,hJx3⟩⟩
  ·obtain rfl:k'=h.length:=by omega
   have hE:(List.finRange h.length).take h.length=List.finRange h.length:=List.take_of_length_le (by rw [List.length_finRange];exact Nat.le_refl _)
   rw [hE] at hJ
   clear hE
   gi_wp2
   go_end0
   exact ⟨⟨_,rfl⟩,.inl ⟨_,rfl,hJ⟩⟩
theorem events8_stops (h:List Ev) (w0:World) (a:Option Addr) (cap:Nat) (hT:IsEvs w0 (.slice a h.length cap) h) (bh k:Nat) (w:World) (hW:Below w0.heap.size w0 w) (hbox:Boxed w bh 22 (.slice a h.length cap)) :
 SeqStopsK Fence.wide k Tryz.prog 192 #[.pointer (some ⟨bh,0,none⟩)] (fun x:Fin h.length=>ixV h x) (KpE w0.heap.size bh) (fun ys=>ys=List.finRange h.length) (fun pre=>pre <+: List.finRange h.length) h.length w :=
 fun l J Jx W hb _ _ hY h0=>events8_in l h w0 a cap hT bh k J Jx hY W (hW.trans (hb.mono hW.size)) (boxed_below7 hbox hb) h0
end Go.Proofs.YtkkenfhlgpjmjaaGreatDoor
namespace Go.Proofs.YtkkenfhlgpjmjaaGreatDoor
set_option maxRecDepth 100000
set_option linter.unusedVariables false
abbrev endE (y:Ev):Prop:=y.1=4∨y.1=5
def endedIn (h:List Ev) (pre:List (Fin h.length)) (t:Int):Bool:=pre.any fun j=>decide (h[j.val].2.1=t∧endE h[j.val])
def livG (h:List Ev):List (Fin h.length)→List (Fin h.length)→List (Fin h.length)
 | _,[]=>[]
 | seen,x::r=>if endedIn h seen h[x.val].2.1=true then livG h (seen++[x]) r else x::livG h (seen++[x]) r
def livF (h:List Ev) (pre:List (Fin h.length)):List (Fin h.length):=livG h [] pre
def livP (h:List Ev):List (Fin h.length):=livF h (List.finRange h.length)
theorem livG_append (h:List Ev):∀ (l seen r:List (Fin h.length)),livG h seen (l++r)=livG h seen l++livG h (seen++l) r
 | [],seen,r=>by simp [livG]
 | y::l,seen,r=>by
   show livG h seen (y::(l++r))=_
   rw [livG,livG,livG_append h l (seen++[y]) r]
   by_cases he:endedIn h seen h[y.val].2.1=true
   ·rw [if_pos he,if_pos he];simp
   ·rw [if_neg he,if_neg he];simp
theorem livF_snoc_dead (h:List Ev) (pre:List (Fin h.length)) (x:Fin h.length) (he:endedIn h pre h[x.val].2.1=true):livF h (pre++[x])=livF h pre:=by
 unfold livF
 rw [livG_append,List.nil_append,livG,if_pos he,livG,List.append_nil]
theorem livF_snoc (h:List Ev) (pre:List (Fin h.length)) (x:Fin h.length) (he:endedIn h pre h[x.val].2.1=false):livF h (pre++[x])=livF h pre++[x]:=by
 unfold livF
 rw [livG_append,List.nil_append,livG,if_neg (by rw [he];simp),livG]
theorem livG_len (h:List Ev):∀ (l seen:List (Fin h.length)),(livG h seen l).length≤l.length
 | [],seen=>Nat.le_refl _
 | y::l,seen=>by
   rw [livG]
   have:=livG_len h l (seen++[y])
   by_cases he:endedIn h seen h[y.val].2.1=true
   ·rw [if_pos he];simp only [List.length_cons];omega
   ·rw [if_neg he];simp only [List.length_cons];omega
theorem livF_len (h:List Ev) (pre:List (Fin h.length)):(livF h pre).length≤pre.length:=livG_len h pre []
theorem livF_prefix (h:List Ev) {pre q:List (Fin h.length)} (hp:pre <+: q):livF h pre <+: livF h q:=by
 obtain ⟨r,rfl⟩:=hp
 unfold livF
 rw [livG_append]
 exact List.prefix_append _ _
theorem endedIn_snoc (h:List Ev) (pre:List (Fin h.length)) (x:Fin h.length) (t:Int):endedIn h (pre++[x]) t=(endedIn h pre t || decide (h[x.val].2.1=t∧endE h[x.val])):=by
 unfold endedIn
 rw [List.any_append]
 simp
theorem endedIn_take (h:List Ev) (k:Nat) (hk:k≤h.length) (t:Int):endedIn h ((List.finRange h.length).take k) t=(endL h t k).isSome:=by
 rw [Bool.eq_iff_iff]
 unfold endedIn
 rw [List.any_eq_true]
 constructor
 ·rintro ⟨j,hj,hd⟩
  have hjk:j.val < k:=by
   obtain ⟨i,hi,rfl⟩:=List.mem_take_iff_getElem.1 hj
   simp at hi ⊢
   omega
  rw [decide_eq_true_eq] at hd
  cases he:endL h t k with
  | some e=>rfl
  | none =>
    have:=(fi_none _ _).1 he j.val hjk
    unfold isEnd at this
    rw [decide_eq_false_iff_not,ev_get h _ j.isLt] at this
    exact absurd hd this
 ·intro hs
  obtain ⟨e,he⟩:=Option.isSome_iff_exists.1 hs
  obtain ⟨h1,h2,h3⟩:=(fi_some _ _ _).1 he
  unfold isEnd at h2
  rw [decide_eq_true_eq,ev_get h _ (by omega)] at h2
  exact ⟨⟨e,by omega⟩,List.mem_take_iff_getElem.2 ⟨e,by simp;omega,by simp⟩,decide_eq_true h2⟩
end Go.Proofs.YtkkenfhlgpjmjaaGreatDoor
namespace Go.Proofs.YtkkenfhlgpjmjaaGreatDoor
set_option maxRecDepth 100000
open Go.RowKit
set_option linter.unusedVariables false
def SeqStopsW {α:Type} (F:Fence) (n:Nat) (P:Program) (g:Nat) (lb:Array Value) (encs:α→Array Value) (Kp:World→World→Prop) (S Sp:List α→Prop) (N H l:Nat) (W:World):Prop :=
 ∀ J Jx:List α→World→Prop,OwnFrom W.heap.size J→OwnFrom W.heap.size Jx →
   (∀ pre x V,J pre V→pre.length < N→H≤V.heap.size→YieldAt F (n - 1) P l (encs x) V fun e V'=>(e=.returned (.bool true)∧J (pre++[x]) V'∧Kp V V'∧KeepsFrom W.heap.size V V')∨(e=.returned (.bool false)∧Jx (pre++[x]) V'∧KeepsFrom W.heap.size V V')) →
   J [] W→CallsIn F n P g (#[.func (.yield l) #[] #[]]++lb) W fun e V=>(∃ v,e=.returned v)∧((∃ xs,S xs∧J xs V)∨∃ pre,Sp pre∧Jx pre V)
theorem keeps_put {B l:Nat} {W:World} (o:Obj) (hl:l < B):KeepsFrom B W (W.putObj l o) :=
 KeepsFrom.of_grownBy (grownBy_putObj' W l o) (fun j e=>by cases e;exact hl)
theorem keeps_far {B B':Nat} {X Y:World} (h:KeepsFrom B X Y) (hb:B≤B'):KeepsFrom B' X Y:=⟨h.size,fun k o hk=>h.same k o (by omega)⟩
section
variable {F:Fence} {n:Nat} {P:Program} {w:World}
theorem rangeFunc_C {α:Type} {g:Operand} {ps:Array Tmp} {assign body:Code} {Q:Exit→Act→World→Prop} {a:Act}
 (hro:F.round=none) (h1:1≤n) {gf:Nat} {lb:Array Value} (hg:a.eval g=.func (.func gf) #[] lb) (hFg:F.fn gf) (eg:∀ args w,(callFunc gf args).run P w=.ok (.enter gf args) w)
 {encs:α→Array Value} {Kp:World→World→Prop} {S Sp:List α→Prop} {N H:Nat}
 (hseq:∀ V,Below w.heap.size w V→V.heap.size=w.heap.size+1+1→SeqStopsW F (n - 1) P gf lb encs Kp S Sp N H (w.heap.size+1) V)
 (hKt:∀ {A B C:World},Kp A B→Kp B C→Kp A C) (hKb:∀ (W:World) (o o':Loop),W.heap[w.heap.size+1]?=some (.loop o)→Kp W (W.putObj (w.heap.size+1) (.loop o'))) (hps:∀ x,(encs x).size=ps.size)
 (I:List α→World→Prop) (Ix:Code→List α→World→Prop) (hI:OwnFrom w.heap.size I) (hIx:∀ c,OwnFrom w.heap.size (Ix c)) (h0:I [] w)
 (Ax:α→Act→World→Prop) (hAx:∀ x a',OwnFrom w.heap.size (fun (_:Unit) W=>Ax x a' W))
 (hassign:∀ (l:Nat) (pre:List α) (x:α) (W:World) (K:Act→World→Prop),I pre W→H≤W.heap.size→(∀ a' W',KeepsFrom w.heap.size W W'→Kp W W'→I pre W'→Ax x a' W'→K a' W') →
  assign.wpIn (F.inRound l) (n - 1 - 1) P (Exit.then K (fun _ _ _=>False)) { tmps:=(ps.zip (encs x)).foldl (fun t (p,v)=>t.setIfInBounds p v) a.tmps,defers:=[] } W)
 (hbody:∀ (l:Nat) (pre:List α) (x:α) (a':Act) (W:World),I pre W→H≤W.heap.size→Ax x a' W→pre.length < N→body.wpIn (F.inRound l) (n - 1 - 1) P (ownPostG w.heap.size Kp I Ix (pre++[x]) W) a' W)
 (hdone:∀ (D:Nat) (xs:List α) (W:World),w.heap.size≤D→S xs→I xs W→W.heap[D]?=some (.deferred (some []))→Q .normal { a with defers:={ target:=.collected D,args:=#[] }::a.defers } W)
 (hstop:∀ (D:Nat) (c:Code) (pre:List α) (W:World),w.heap.size≤D→Sp pre→Ix c pre W→W.heap[D]?=some (.deferred (some []))→c.wpIn F n P Q { a with defers:={ target:=.collected D,args:=#[] }::a.defers } W) :
 (Code.rangeFunc g ps assign body).wpIn F n P Q a w:=by
 refine wpIn_rangeFunc ?_
 intro fn hfn
 rw [hro]
 obtain ⟨R,hR⟩:∃ R:LoopState→Option Code→Loop,R=fun st pe=>{ state:=st,pending:=pe,fn,tmps:=a.tmps,params:=ps,assign,body,defers:=w.heap.size }:=⟨_,rfl⟩
 obtain ⟨V,hV⟩:∃ V,(w.alloc (.deferred (some []))).alloc (.loop (R .ready none))=V:=⟨_,rfl⟩
 have vs:V.heap.size=w.heap.size+1+1:=by rw [← hV];simp
 have vl:V.heap[w.heap.size+1]?=some (.loop (R .ready none)):=by
  have:=World.alloc_heap_new (w.alloc (.deferred (some []))) (.loop (R .ready none))
  rw [World.size_alloc] at this
  rw [← hV];exact this
 have vd:V.heap[w.heap.size]?=some (.deferred (some [])):=by
  rw [← hV];exact (Below.heap_alloc _ _ _ (by simp)).trans (World.alloc_heap_new w _)
 have vb:Below w.heap.size w V:=by rw [← hV];exact ((Below.refl _ w).alloc (Nat.le_refl _) _).alloc (by simp) _
 have vI:I [] V:=by rw [← hV];exact hI.alloc _ (hI.alloc _ h0)
 refine ⟨w.heap.size+1,[{ target:=.collected w.heap.size,args:=#[] }],V,{ target:=.fn (.func gf) lb,args:=#[.func (.yield (w.heap.size+1)) #[] #[]] },V,gf,#[.func (.yield (w.heap.size+1)) #[] #[]]++lb,V,?_,?_,?_,?_,fun _=>h1,?_⟩
 ·rw [← hV,hR];exact run_enterLoop_outer _ _ _ _ _
 ·simp only [resolve,hg]
  simp [go_sem]
 ·intro f' hf';simp [Target.leads] at hf';subst hf';exact hFg
 ·simp [invoke,go_sem,eg]
 have far:∀ {A B:World} {row:Option Nat} {k:Nat} {o:Obj},A.grownBy B row→(∀ r,row=some r→V.heap.size≤r∧∃ o:Obj,A.heap[r]?=some o∧o.isCells=false)→k < V.heap.size→A.heap[k]?=some o→B.heap[k]?=some o:=fun hg' hr hk ho =>
  (hg'.block _ (Array.getElem?_eq_some_iff.1 ho).1 (fun e=>by have:=(hr _ e.symm).1;omega)).trans ho
 refine (hseq V vb vs (fun pre W=>I pre W∧W.heap[w.heap.size+1]?=some (.loop (R .ready none))∧W.heap[w.heap.size]?=some (.deferred (some [])))
  (fun pre W=>∃ c,Ix c pre W∧W.heap[w.heap.size+1]?=some (.loop (R .done (some c)))∧W.heap[w.heap.size]?=some (.deferred (some []))) ?ownJ ?ownX ?round ⟨vI,vl,vd⟩).mono ?behind
 case ownJ =>
  intro s A B row hs hg' hr
  exact ⟨hI s A B row hs.1 hg' (fun r e=>⟨by have:=(hr r e).1;omega,(hr r e).2⟩),far hg' hr (by omega) hs.2.1,far hg' hr (by omega) hs.2.2⟩
 case ownX =>
  intro s A B row hs hg' hr
  obtain ⟨c,hc,hl,hd⟩:=hs
  exact ⟨c,hIx c s A B row hc hg' (fun r e=>⟨by have:=(hr r e).1;omega,(hr r e).2⟩),far hg' hr (by omega) hl,far hg' hr (by omega) hd⟩
 case round =>
  rintro pre x W ⟨hi,hl,hd⟩ hlen hH
  have hy:=run_yield (P:=P) (args:=encs x) hl (by rw [hR];exact hps x)
  rw [hR] at hy
  refine ⟨fn,_,assign,body,hy,roundIn_of_wpIn hfn (hassign _ pre x W _ hi hH ?_)⟩
  clear hy
  intro a' A kA pA iA xA
  have hlA:=kA.same _ _ (by omega) hl rfl
  have hdA:=kA.same _ _ (Nat.le_refl _) hd rfl
  have zA:w.heap.size+1 < A.heap.size:=(Array.getElem?_eq_some_iff.1 hlA).1
  refine ⟨_,run_beginRound hlA (by rw [hR]),?_⟩
  obtain ⟨B,hB⟩:∃ B,A.putObj (w.heap.size+1) (.loop { R .ready none with state:=.busy })=B:=⟨_,rfl⟩
  have zB:B.heap.size=A.heap.size:=by rw [← hB];simp
  have hlB:B.heap[w.heap.size+1]?=some (.loop { R .ready none with state:=.busy }):=by rw [← hB];exact World.putObj_heap_same zA
  have hdB:B.heap[w.heap.size]?=some (.deferred (some [])):=by rw [← hB];exact (World.putObj_heap_other (by omega)).trans hdA
  have iB:I pre B:=by rw [← hB];exact hI.putObj _ iA (by omega) hlA rfl
  have xB:Ax x a' B:=by rw [← hB];exact (hAx x a').putObj (s:=()) _ xA (by omega) hlA rfl
  have kB:KeepsFrom V.heap.size W B:=(keeps_far kA (by omega)).trans (by rw [← hB];exact keeps_put _ (by omega))
  have pB:Kp W B:=hKt pA (by rw [← hB];exact hKb _ _ _ hlA)
  rw [hB]
  refine wpIn_mono (hbody _ pre x a' B iB (by rw [zB];exact Nat.le_trans hH kA.size) xB hlen) ?_
  have fin:∀ (jump:Option Code) (C:World),KeepsFrom w.heap.size B C →
   (Instr.endRound (w.heap.size+1) jump).run P C=.ok (.bool jump.isNone) (C.putObj (w.heap.size+1) (.loop (R (if jump.isNone then .ready else .done) jump))) ∧
   C.heap[w.heap.size+1]?=some (.loop { R .ready none with state:=.busy }) ∧
   (C.putObj (w.heap.size+1) (.loop (R (if jump.isNone then .ready else .done) jump))).heap[w.heap.size+1]?=some (.loop (R (if jump.isNone then .ready else .done) jump)) ∧
   (C.putObj (w.heap.size+1) (.loop (R (if jump.isNone then .ready else .done) jump))).heap[w.heap.size]?=some (.deferred (some [])):=fun jump C kC=>by
   have hlC:=kC.same _ _ (by omega) hlB rfl
   have e:=run_endRound (P:=P) jump hlC
   rw [hR] at e ⊢
   exact ⟨e,by rw [hR] at hlC;exact hlC,World.putObj_heap_same (Array.getElem?_eq_some_iff.1 hlC).1,(World.putObj_heap_other (by omega)).trans (kC.same _ _ (Nat.le_refl _) hdB rfl)⟩
  rintro e a3 C hp
  cases e with
  | normal =>
    obtain ⟨kC,pC,iC⟩:=hp
    obtain ⟨e1,e2,e3,e4⟩:=fin none C kC
    exact ⟨_,_,e1,.inl ⟨rfl,⟨hI.putObj _ iC (by omega) e2 rfl,e3,e4⟩,hKt pB (hKt pC (hKb _ _ _ e2)),kB.trans ((keeps_far kC (by omega)).trans (keeps_put _ (by omega)))⟩⟩
  | ret =>
    obtain ⟨kC,iC⟩:=hp
    obtain ⟨e1,e2,e3,e4⟩:=fin (some .ret) C kC
    exact ⟨_,_,e1,.inr ⟨rfl,⟨.ret,(hIx _).putObj _ iC (by omega) e2 rfl,e3,e4⟩,kB.trans ((keeps_far kC (by omega)).trans (keeps_put _ (by omega)))⟩⟩
  | exit id =>
    obtain ⟨kC,iC⟩:=hp
    obtain ⟨e1,e2,e3,e4⟩:=fin (some (.exit id)) C kC
    exact ⟨_,_,e1,.inr ⟨rfl,⟨.exit id,(hIx _).putObj _ iC (by omega) e2 rfl,e3,e4⟩,kB.trans ((keeps_far kC (by omega)).trans (keeps_put _ (by omega)))⟩⟩
  | goto t =>
    obtain ⟨kC,iC⟩:=hp
    obtain ⟨e1,e2,e3,e4⟩:=fin (some (.goto t)) C kC
    exact ⟨_,_,e1,.inr ⟨rfl,⟨.goto t,(hIx _).putObj _ iC (by omega) e2 rfl,e3,e4⟩,kB.trans ((keeps_far kC (by omega)).trans (keeps_put _ (by omega)))⟩⟩
  | panic ch=>exact hp.elim
  | outgrown=>exact hp.elim
 case behind =>
  rintro e W2 ⟨⟨v,rfl⟩,(⟨xs,hS,hi,hl,hd⟩ | ⟨pre,hSp,c,hi,hl,hd⟩)⟩
  ·exact ⟨none,_,by have:=run_endLoop (P:=P) hl (by rw [hR];simp);rw [hR] at this;exact this,hdone _ xs _ (Nat.le_refl _) hS (hI.putObj _ hi (by omega) hl rfl) ((World.putObj_heap_other (by omega)).trans hd)⟩
  ·exact ⟨some c,_,by have:=run_endLoop (P:=P) hl (by rw [hR];simp);rw [hR] at this;exact this,hstop _ c pre _ (Nat.le_refl _) hSp ((hIx c).putObj _ hi (by omega) hl rfl) ((World.putObj_heap_other (by omega)).trans hd)⟩
theorem callsIn_depth {n:Nat} (m:Nat) {P:Program} {f:FuncId} {args:Array Value} {w:World} {R:Ending→World→Prop} (h:CallsIn Fence.wide m P f args w R):CallsIn Fence.wide n P f args w R:=callsIn_wide.2 (callsIn_wide.1 h)
theorem yield_any {m:Nat} (m':Nat) {l:Nat} {args:Array Value} {W:World} {R:Ending→World→Prop} (h:YieldAt Fence.wide m P l args W R):YieldAt Fence.wide m' P l args W R:=by
 obtain ⟨fn,tmps,assign,body,hy,hR⟩:=h
 exact ⟨fn,tmps,assign,body,hy,hR.1,fun c cs _=>hR.2 c cs (fun d h=>by cases h)⟩
end
end Go.Proofs.YtkkenfhlgpjmjaaGreatDoor
namespace Go.Proofs.YtkkenfhlgpjmjaaGreatDoor
set_option maxRecDepth 100000
open Go.RowKit Go.Shelf Go.Maps
set_option linter.unusedVariables false
attribute [local go_sem] Oper.semAt_some
abbrev livingF (b:Nat):Value:=.func (.func 242) #[] #[.pointer (some ⟨b,0,none⟩)]
theorem pliving_any (a:Option Addr) (n cap:Nat) (w:World) :
 Calls Tryz.prog 194 #[.slice a n cap] w fun e w'=>e=.returned (livingF w.heap.size)∧w'=w.alloc (.cells #[.slice a n cap] 22):=by
 go_enter Tryz.func194,Tryz.ntmps194
 go_wp2_with fail
 go_ret
 exact ⟨rfl,rfl⟩
theorem zero8u (w:World):(zeroValue 167).run Tryz.prog w=.ok (.agg #[]) w:=by kernel_rfl
structure KpL (n b A:Nat) (W W':World):Prop where
 below:Below n W W'
 box:W'.heap[b]?=W.heap[b]?
 own:∀ j,A≤j→j < A+1+1+1+1→W'.heap[j]?=W.heap[j]?
theorem KpL.trans {n b A:Nat} {X Y Z:World} (h:KpL n b A X Y) (k:KpL n b A Y Z):KpL n b A X Z :=
 ⟨h.below.trans k.below,k.box.trans h.box,fun j h1 h2=>(k.own j h1 h2).trans (h.own j h1 h2)⟩
structure VSt (V:World) (l:Nat) (sl:Value) (m:Nat) (p:Int→Bool) (W:World):Prop where
 size:V.heap.size+1+1+1+1≤W.heap.size
 by_:Boxed W (V.heap.size) 249 (.func (.yield l) #[] #[])
 bm:ISet W (V.heap.size+1) m p
 bb:Boxed W (V.heap.size+1+1) 90 (.map (some (V.heap.size+1)))
 be:Boxed W (V.heap.size+1+1+1) 22 sl
theorem VSt.bel {V:World} {l:Nat} {sl:Value} {m:Nat} {p:Int→Bool} {W W':World} (h:VSt V l sl m p W) (hb:Below (V.heap.size+1+1+1+1) W W'):VSt V l sl m p W' :=
 ⟨Nat.le_trans h.size hb.size,boxed_bel h.by_ hb (by omega),h.bm.bel hb (by omega),boxed_bel h.bb hb (by omega),boxed_bel h.be hb (by omega)⟩
theorem VSt.turn {V:World} {l:Nat} {sl:Value} {m m':Nat} {p p':Int→Bool} {W W':World} (h:VSt V l sl m p W) (hg:W.grownBy W' (some (V.heap.size+1))) (hf:ISet W' (V.heap.size+1) m' p'):VSt V l sl m' p' W' :=
 ⟨Nat.le_trans h.size hg.size,h.by_.kept hg (fun e=>by have:=Option.some.inj e;omega),hf,h.bb.kept hg (fun e=>by have:=Option.some.inj e;omega),h.be.kept hg (fun e=>by have:=Option.some.inj e;omega)⟩
theorem VSt.own {V:World} {l:Nat} {sl:Value} {m:Nat} {p:Int→Bool} {W W':World} (h:VSt V l sl m p W) (hs:W.heap.size≤W'.heap.size) (ho:∀ j,V.heap.size≤j→j < V.heap.size+1+1+1+1→W'.heap[j]?=W.heap[j]?):VSt V l sl m p W' :=
 ⟨Nat.le_trans h.size hs,(ho _ (by omega) (by omega)).trans h.by_,h.bm.same (ho _ (by omega) (by omega)),(ho _ (by omega) (by omega)).trans h.bb,(ho _ (by omega) (by omega)).trans h.be⟩
theorem own_step {β:Type} {B:Nat} {J:β→World→Prop} (hJ:OwnFrom B J) {s:β} {W W':World} (h:J s W) (hg:Below W.heap.size W W'):J s W' :=
 hJ s W W' none h (grown_below8 none hg) (fun r e=>by cases e)
set_option maxHeartbeats 4000000 in
theorem living8_in (h:List Ev) (w0:World) (a:Option Addr) (cap:Nat) (hT:IsEvs w0 (.slice a h.length cap) h) (hG:∀ x∈h,goodE x) (hn:h.length≤300) (bh k l:Nat) (V:World) (hW:Below w0.heap.size w0 V) (hbox:Boxed V bh 22 (.slice a h.length cap)) (J Jx:List (Fin h.length)→World→Prop) (hJ:OwnFrom V.heap.size J) (hJx:OwnFrom V.heap.size Jx)
 (hY:∀ pre x W,J pre W→pre.length < h.length→V.heap.size+1+1+1+1≤W.heap.size→YieldAt Fence.wide (k - 1) Tryz.prog l (ixV h x) W fun e W'=>(e=.returned (.bool true)∧J (pre++[x]) W'∧KpL w0.heap.size bh V.heap.size W W'∧KeepsFrom V.heap.size W W')∨(e=.returned (.bool false)∧Jx (pre++[x]) W'∧KeepsFrom V.heap.size W W'))
 (h0:J [] V) :
 CallsIn Fence.wide k Tryz.prog 242 #[.func (.yield l) #[] #[],.pointer (some ⟨bh,0,none⟩)] V fun e W'=>(∃ v,e=.returned v) ∧
  ((∃ ys,ys=livP h∧J ys W')∨(∃ pre,pre <+: livP h∧Jx pre W')):=by
 have hdd:∀ k:Nat,(Fence.wide.depth.isSome=true→1≤k):=fun k h=>by cases h
 have hmm:=@run_makeMap Tryz.prog
 have c0:=(((hbox.alloc (.cells #[.func (.yield l) #[] #[]] 249)).alloc (.map #[] 0)).alloc (.cells #[.map (some (V.heap.size+1))] 90)).cell
 have hbl:=hbox.lt
 refine callsIn_depth 5 ?_
 refine callsIn_of_wp_marks Tryz.func242 rfl trivial ?_ rfl
 simp only [Tryz.ntmps242,List.size_toArray,List.length_cons,List.length_nil,Nat.reduceAdd,Nat.reduceSub,Array.replicate_succ,Array.replicate_zero,List.push_toArray,List.append_toArray,List.nil_append,List.cons_append]
 gi_wp2_with ((try refine ⟨trivial,?_⟩);gi_at_call 135;refine (callsIn_wide.2 (pevents8_any _ _ _ _)).mono ?_;rintro e w2 ⟨rfl,rfl⟩)
 have hS0:VSt V l (.slice a h.length cap) 0 (fun _=>false) ((((V.alloc (.cells #[.func (.yield l) #[] #[]] 249)).alloc (.map #[] 0)).alloc (.cells #[.map (some (V.heap.size+1))] 90)).alloc (.cells #[.slice a h.length cap] 22)):=by
  have b0:=(((Boxed.new V 249 (.func (.yield l) #[] #[])).alloc (.map #[] 0)).alloc (.cells #[.map (some (V.heap.size+1))] 90)).alloc (.cells #[.slice a h.length cap] 22)
  have b1:=((ISet.made (V.alloc (.cells #[.func (.yield l) #[] #[]] 249))).kept (World.grownBy_alloc _ (.cells #[.map (some (V.heap.size+1))] 90) none) (by simp)).kept (World.grownBy_alloc _ (.cells #[.slice a h.length cap] 22) none) (by simp)
  have b2:=(Boxed.new ((V.alloc (.cells #[.func (.yield l) #[] #[]] 249)).alloc (.map #[] 0)) 90 (.map (some (V.heap.size+1)))).alloc (.cells #[.slice a h.length cap] 22)
  have b3:=Boxed.new (((V.alloc (.cells #[.func (.yield l) #[] #[]] 249)).alloc (.map #[] 0)).alloc (.cells #[.map (some (V.heap.size+1))] 90)) 22 (.slice a h.length cap)
  simp only [World.size_alloc] at b0 b1 b2 b3
  exact ⟨by simp,b0,b1,b2,b3⟩
 have B0:Below V.heap.size V ((((V.alloc (.cells #[.func (.yield l) #[] #[]] 249)).alloc (.map #[] 0)).alloc (.cells #[.map (some (V.heap.size+1))] 90)).alloc (.cells #[.slice a h.length cap] 22)):=((((Below.refl _ V).alloc (Nat.le_refl _) _).alloc (by simp) _).alloc (by simp;omega) _).alloc (by simp;omega) _
 obtain ⟨W0,hW0⟩:∃ W0,((((V.alloc (.cells #[.func (.yield l) #[] #[]] 249)).alloc (.map #[] 0)).alloc (.cells #[.map (some (V.heap.size+1))] 90)).alloc (.cells #[.slice a h.length cap] 22))=W0:=⟨_,rfl⟩
 have sW0:W0.heap.size=V.heap.size+1+1+1+1:=by rw [← hW0];simp
 change Code.wpIn _ _ _ _ _ _ ((((V.alloc (.cells #[.func (.yield l) #[] #[]] 249)).alloc (.map #[] 0)).alloc (.cells #[.map (some (V.heap.size+1))] 90)).alloc (.cells #[.slice a h.length cap] 22))
 rw [hW0] at hS0 B0 ⊢
 clear hW0 c0
 have J0:J [] W0:=own_step hJ h0 B0
 refine wpIn_rangeFunc_ownH rfl (by omega) (gf:=192) (lb:=#[.pointer (some ⟨V.heap.size+1+1+1,0,none⟩)]) rfl trivial (enters_of Tryz.func192 (by kernel_rfl) rfl)
  (events8_stops h w0 a cap hT (V.heap.size+1+1+1) (5 - 1) W0 (hW.trans (B0.mono hW.size)) hS0.be) (fun h k=>kpE_t h k) (kpE_b (by have:=hW.size;omega) (by omega)) (Below.refl _ _) (fun _=>rfl)
  (fun pre W=>J (livF h pre) W∧VSt V l (.slice a h.length cap) pre.length (endedIn h pre) W∧Below V.heap.size V V) (fun c pre W=>c=.ret∧Jx (livF h pre) W)
  (fun s X Y row ⟨hj,hs,hb⟩ hg hr=>⟨hJ _ X Y row hj hg (fun r e=>⟨by have:=(hr r e).1;omega,(hr r e).2⟩),hs.bel ((Below.refl _ X).grown hg hs.size (fun r e=>by have:=(hr r e).1;omega)),hb⟩)
  (fun c s X Y row ⟨hc,hj⟩ hg hr=>⟨hc,hJx _ X Y row hj hg (fun r e=>⟨by have:=(hr r e).1;omega,(hr r e).2⟩)⟩)
  ⟨J0,hS0,Below.refl _ _⟩
  (fun x a' W=>∃ Bx,V.heap.size+1+1+1 < Bx∧SBox W Bx 64 #[.int .i64 h[x.val].1,.int .i64 h[x.val].2.1,.string ⟨h[x.val].2.2.1.toArray⟩,.string ⟨h[x.val].2.2.2.toArray⟩]∧a'={ tmps:=#[.func (.yield l) #[] #[],.pointer (some ⟨bh,0,none⟩),.pointer (some ⟨V.heap.size,0,none⟩),.pointer (some ⟨V.heap.size+1+1,0,none⟩),.int .i64 (x.val:Int),.pointer (some ⟨Bx,0,none⟩),undef,undef,.map (some (V.heap.size+1)),.slice a h.length cap,eventsF8 (V.heap.size+1+1+1),.int .i64 (x.val:Int),evW h[x.val],undef,undef,undef,undef,undef,undef,undef,undef,undef,undef,undef,undef,undef,undef,undef,undef,undef,undef,undef],defers:=[] })
  (fun x a' _ A B row hs hg hr=>by
   obtain ⟨Bx,h1,h2,h4⟩:=hs
   exact ⟨Bx,h1,block_kept h2 hg (fun r e=>(hr r e).2),h4⟩)
  ?assign ?body ?done ?stop
 case assign =>
  rintro l' pre x W K ⟨hj,hS,_⟩ hK
  have hsz:=hS.size
  gi_wp2
  have b1:=(Below.refl W.heap.size W).alloc (Nat.le_refl _) (.cells #[.int .i64 h[x.val].1,.int .i64 h[x.val].2.1,.string ⟨h[x.val].2.2.1.toArray⟩,.string ⟨h[x.val].2.2.2.toArray⟩] 64)
  refine hK _ _ ((KeepsOthers.alloc _ _).from _) ⟨(Below.refl _ W).alloc (by have:=hW.size;omega) _,Below.heap_alloc W _ _ (by omega)⟩ ⟨own_step hJ hj b1,hS.bel (b1.mono hsz),Below.refl _ _⟩ ⟨W.heap.size,by omega,SBox.new W _ _,rfl⟩
 case body =>
  rintro l' pre x a' W hl hrec ⟨hj,hS,_⟩ ⟨Bx,hBx,hblk,rfl⟩ hlt
  have HW0:Hid (W0.heap.size=V.heap.size+1+1+1+1):=sW0
  have hVs:=hW.size
  clear sW0 hS0 hl hrec J0 B0
  have hsz:=hS.size
  have hxn:=x.isLt
  have hgx:=hG h[x.val] (List.getElem_mem _)
  obtain ⟨⟨y0,y1,y2,y3⟩,hy⟩:∃ y,h[x.val]=y:=⟨_,rfl⟩
  have HY:Hid (h[x.val]=(y0,y1,y2,y3)):=hy
  have e21:h[x.val].2.1=y1:=by rw [hy]
  have HDead:Hid (endedIn h pre y1=true→livF h (pre++[x])=livF h pre):=fun he=>livF_snoc_dead h pre x (by rw [e21];exact he)
  have HLive:Hid (endedIn h pre y1=false→livF h (pre++[x])=livF h pre++[x]):=fun he=>livF_snoc h pre x (by rw [e21];exact he)
  have HE:Hid (endedIn h (pre++[x])=fun t=>(endedIn h pre t || decide (y1=t∧(y0=4∨y0=5)))):=by
   show _=_
   funext t
   rw [endedIn_snoc,hy]
  have ki:=key8i hgx.2.1
  rw [e21] at ki
  clear e21 hgx
  rw [hy] at hblk ⊢
  simp only at hblk
  clear hy
  have q0:=hblk.cell 0 _ rfl
  have q1:=hblk.cell 1 _ rfl
  have q2:=hblk.cell 2 _ rfl
  have q3:=hblk.cell 3 _ rfl
  obtain ⟨i,hxi⟩:∃ i,x.val=i:=⟨_,rfl⟩
  have HI:Hid (x.val=i):=hxi
  rw [hxi] at hxn ⊢
  clear hxi
  have c1:=hS.bb.cell
  obtain ⟨D,hown,hD⟩:=hS.bm
  have hDy:=hD y1
  have lenx:(pre++[x]).length=pre.length+1:=by simp
  have LX:Hid ((pre++[x]).length=pre.length+1):=lenx
  clear lenx
  have bU:=(Below.refl W.heap.size W).alloc (Nat.le_refl _) (.cells #[] 167)
  cases he:endedIn h pre y1 with
  | true =>
    rw [he] at hDy
    have HF:Hid (KeepsFrom W0.heap.size W (W.alloc (.cells #[] 167))∧KpE w0.heap.size (V.heap.size+1+1+1) W (W.alloc (.cells #[] 167))∧(J (livF h (pre++[x])) (W.alloc (.cells #[] 167))∧VSt V l (.slice a h.length cap) (pre++[x]).length (endedIn h (pre++[x])) (W.alloc (.cells #[] 167))∧Below V.heap.size V V)):=by
     refine ⟨(KeepsOthers.alloc _ _).from _,⟨bU.mono (by omega),bU.block _ (by omega)⟩,by rw [HDead.out he];exact own_step hJ hj bU,?_,Below.refl _ _⟩
     have hS':=hS.bel (bU.mono hsz)
     refine ⟨hS'.size,hS'.by_,?_,hS'.bb,hS'.be⟩
     rw [LX.out,HE.out]
     have e:(fun t=>(endedIn h pre t || decide (y1=t∧(y0=4∨y0=5))))=endedIn h pre:=by
      funext t
      by_cases ht:y1=t
      ·subst ht;rw [he];rfl
      ·rw [decide_eq_false (fun hh=>ht hh.1),Bool.or_false]
     rw [e]
     exact hS'.bm.mono (Nat.le_succ _)
    clear hS hj HDead HLive HE hY hJ hJx he
    gi_wp2_with (gi_at_lookup;refine wpListIn_lookup_own_unit _ rfl _ _ 90 rfl 3 167 law8i Tryz.underlying90 (zero8u _) (V.heap.size+1) pre.length D rfl hown _ _ rfl ki ?_;rw [hDy])
    exact HF.out
  | false =>
    rw [he] at hDy
    have C:=pends_any y0 y1 y2 y3 (W.alloc (.cells #[] 167))
    have q0':=cell_bel bU q0
    have q1':=cell_bel bU q1
    have q2':=cell_bel bU q2
    have q3':=cell_bel bU q3
    by_cases hm:y0=4∨y0=5
    ·rw [decide_eq_true hm] at C
     have HM:Hid (y0=4∨y0=5):=hm
     clear hm
     gi_wp2_with (first
      | (gi_at_lookup;refine wpListIn_lookup_own_unit _ rfl _ _ 90 rfl 3 167 law8i Tryz.underlying90 (zero8u _) (V.heap.size+1) pre.length D rfl hown _ _ rfl ki ?_;rw [hDy])
      | ((try refine ⟨trivial,?_⟩);gi_at_call 195;refine (CallsIn.inRound l' (callsIn_wide.2 C)).mono ?_;clear C;rintro e W1 ⟨rfl,b1⟩;refine Hid.out ?_))
     have bW1:Below W.heap.size W W1:=bU.trans (b1.mono (by simp))
     have s1:=bW1.size
     have hS1:=hS.bel (bW1.mono hsz)
     have x1:=hblk.below bW1
     have c2:=hS1.bb.cell
     have r0:=x1.cell 0 _ rfl
     have r1:=x1.cell 1 _ rfl
     have r2:=x1.cell 2 _ rfl
     have r3:=x1.cell 3 _ rfl
     obtain ⟨D1,hown1,hD1⟩:=hS1.bm
     have j1:J (livF h pre) W1:=own_step hJ hj bW1
     clear hD hown hDy q0 q1 q2 q3 q0' q1' q2' q3' c1
     refine Lib.hid ?_
     gi_wp2_with (gi_at_mapUpdate;refine wpListIn_mapUpdate_own _ rfl _ _ _ 90 rfl 3 167 law8i Tryz.underlying90 _ (V.heap.size+1) pre.length D1 rfl hown1 (by unfold maxLen;omega) _ _ _ rfl rfl ki _ [] unitElem_mk ?_;intro W2 hown2 hg2;refine Hid.out ?_)
     have hS2:VSt V l (.slice a h.length cap) (pre++[x]).length (endedIn h (pre++[x])) W2:=by
      have e:(fun t=>(endedIn h pre t || decide (y1=t∧(y0=4∨y0=5))))=fun t=>(endedIn h pre t || decide (y1=t)):=by
       funext t
       congr 1
       rw [decide_eq_decide]
       exact ⟨fun hh=>hh.1,fun hh=>⟨hh,HM.out⟩⟩
      rw [LX.out,HE.out,e]
      exact hS1.turn hg2 (ISet.put hD1 hown1.isMap y1 hown2)
     have j2:J (livF h pre) W2:=hJ _ _ _ _ j1 hg2 (fun r e=>by
      cases e
      obtain ⟨es,cl,hb,_⟩:=hown1
      exact ⟨by omega,_,hb,rfl⟩)
     have x2:SBox W2 Bx 64 _:=(hg2.block Bx x1.lt (by simp;omega)).trans x1
     have KK:KeepsFrom W0.heap.size W W2:=by
      have hw0:=HW0.out
      exact ((keeps_of_below bW1).from _).trans (KeepsFrom.of_grownBy hg2 (fun j e=>by cases e;omega))
     have BB:Below w0.heap.size W W2:=(bW1.mono (by omega)).grown hg2 (by omega) (fun k e=>by cases e;omega)
     have EB:W2.heap[V.heap.size+1+1+1]?=W.heap[V.heap.size+1+1+1]?:=(hg2.block _ (by omega) (fun e=>by have:=Option.some.inj e;omega)).trans (bW1.block _ (by omega))
     clear hS1 j1 x1 bW1 b1 c2 r0 r1 r2 r3 hown1 hD1 hown2 hg2 hS hj bU HM
     obtain ⟨fn,tmps,assign,body,hy,hR⟩:=yield_any (5 - 1 - 1 - 1) (hY _ x W2 j2 (by have:=livF_len h pre;omega) hS2.size)
     have hyx:=HY.out
     have hix:=HI.out
     simp only [ixV,evW,hyx] at hy
     rw [hix] at hy
     clear hyx hix
     have r0:=x2.cell 0 _ rfl
     have r1:=x2.cell 1 _ rfl
     have r2:=x2.cell 2 _ rfl
     have r3:=x2.cell 3 _ rfl
     have cy:=hS2.by_.cell
     refine Lib.hid ?_
     gi_wp2
     refine RoundIn.mono (show RoundIn (Fence.wide.inRound l') _ _ _ _ _ _ _ _ _ from hR) ?_
     rintro e W3 (⟨rfl,hJ3,hk3,hf3⟩ | ⟨rfl,hJx3,hf3⟩)
     ·have HF:Hid (KeepsFrom W0.heap.size W W3∧KpE w0.heap.size (V.heap.size+1+1+1) W W3∧(J (livF h (pre++[x])) W3∧VSt V l (.slice a h.length cap) (pre++[x]).length (endedIn h (pre++[x])) W3∧Below V.heap.size V V)):=by
       have hw0:=HW0.out
       refine ⟨KK.trans (keeps_far hf3 (by omega)),⟨BB.trans hk3.below,(hk3.own _ (by omega) (by omega)).trans EB⟩,by rw [HLive.out he];exact hJ3,hS2.own hf3.size (fun j h1 h2=>hk3.own j h1 h2),Below.refl _ _⟩
      clear hS2 hk3 hf3 hJ3 HLive HE hY hJ hJx he
      gi_wp2
      exact HF.out
     ·have hlv:=HLive.out he
      have hw0:=HW0.out
      have HF:Hid (KeepsFrom W0.heap.size W W3∧Jx (livF h (pre++[x])) W3):=⟨KK.trans (keeps_far hf3 (by omega)),by rw [hlv];exact hJx3⟩
      clear hS2 hf3 hJx3 HLive HE hY hJ hJx he hlv hw0
      gi_wp2
      exact ⟨HF.out.1,rfl,HF.out.2⟩
    ·rw [decide_eq_false hm] at C
     have HM:Hid (¬ (y0=4∨y0=5)):=hm
     clear hm
     gi_wp2_with (first
      | (gi_at_lookup;refine wpListIn_lookup_own_unit _ rfl _ _ 90 rfl 3 167 law8i Tryz.underlying90 (zero8u _) (V.heap.size+1) pre.length D rfl hown _ _ rfl ki ?_;rw [hDy])
      | ((try refine ⟨trivial,?_⟩);gi_at_call 195;refine (CallsIn.inRound l' (callsIn_wide.2 C)).mono ?_;clear C;rintro e W2 ⟨rfl,b1⟩;refine Hid.out ?_))
     have bW1:Below W.heap.size W W2:=bU.trans (b1.mono (by simp))
     have s1:=bW1.size
     have hS2:VSt V l (.slice a h.length cap) (pre++[x]).length (endedIn h (pre++[x])) W2:=by
      have e:(fun t=>(endedIn h pre t || decide (y1=t∧(y0=4∨y0=5))))=endedIn h pre:=by
       funext t
       rw [decide_eq_false (fun hh=>HM.out hh.2),Bool.or_false]
      have hS1:=hS.bel (bW1.mono hsz)
      rw [LX.out,HE.out,e]
      exact ⟨hS1.size,hS1.by_,hS1.bm.mono (Nat.le_succ _),hS1.bb,hS1.be⟩
     have j2:J (livF h pre) W2:=own_step hJ hj bW1
     have x2:SBox W2 Bx 64 _:=hblk.below bW1
     have KK:KeepsFrom W0.heap.size W W2:=(keeps_of_below bW1).from _
     have BB:Below w0.heap.size W W2:=bW1.mono (by omega)
     have EB:W2.heap[V.heap.size+1+1+1]?=W.heap[V.heap.size+1+1+1]?:=bW1.block _ (by omega)
     clear hD hown hDy q0 q1 q2 q3 q0' q1' q2' q3' c1 bW1 b1 hS hj bU HM
     obtain ⟨fn,tmps,assign,body,hy,hR⟩:=yield_any (5 - 1 - 1 - 1) (hY _ x W2 j2 (by have:=livF_len h pre;omega) hS2.size)
     have hyx:=HY.out
     have hix:=HI.out
     simp only [ixV,evW,hyx] at hy
     rw [hix] at hy
     clear hyx hix
     have r0:=x2.cell 0 _ rfl
     have r1:=x2.cell 1 _ rfl
     have r2:=x2.cell 2 _ rfl
     have r3:=x2.cell 3 _ rfl
     have cy:=hS2.by_.cell
     refine Lib.hid ?_
     gi_wp2
     refine RoundIn.mono (show RoundIn (Fence.wide.inRound l') _ _ _ _ _ _ _ _ _ from hR) ?_
     rintro e W3 (⟨rfl,hJ3,hk3,hf3⟩ | ⟨rfl,hJx3,hf3⟩)
     ·have HF:Hid (KeepsFrom W0.heap.size W W3∧KpE w0.heap.size (V.heap.size+1+1+1) W W3∧(J (livF h (pre++[x])) W3∧VSt V l (.slice a h.length cap) (pre++[x]).length (endedIn h (pre++[x])) W3∧Below V.heap.size V V)):=by
       have hw0:=HW0.out
       refine ⟨KK.trans (keeps_far hf3 (by omega)),⟨BB.trans hk3.below,(hk3.own _ (by omega) (by omega)).trans EB⟩,by rw [HLive.out he];exact hJ3,hS2.own hf3.size (fun j h1 h2=>hk3.own j h1 h2),Below.refl _ _⟩
      clear hS2 hk3 hf3 hJ3 HLive HE hY hJ hJx he
      gi_wp2
      exact HF.out
     ·have hlv:=HLive.out he
      have hw0:=HW0.out
      have HF:Hid (KeepsFrom W0.heap.size W W3∧Jx (livF h (pre++[x])) W3):=⟨KK.trans (keeps_far hf3 (by omega)),by rw [hlv];exact hJx3⟩
      clear hS2 hf3 hJx3 HLive HE hY hJ hJx he hlv hw0
      gi_wp2
      exact ⟨HF.out.1,rfl,HF.out.2⟩
 case done =>
  rintro D ys W hD rfl ⟨hj,hS,_⟩ hK
  have HD:Hid (V.heap.size+1+1+1+1≤D):=by rw [sW0] at hD;exact hD
  clear sW0 hS0 hD
  gi_wp2
  refine ⟨by simp,.inl ⟨_,_,rfl,run_takeDeferred hK,?_⟩⟩
  exact ⟨_,results_none rfl _ _ _,⟨_,rfl⟩,.inl ⟨_,rfl,hJ.putObj _ hj (by have:=HD.out;omega) hK rfl⟩⟩
 case stop =>
  rintro D c pre W hD hSp ⟨rfl,hj⟩ hK
  have HD:Hid (V.heap.size+1+1+1+1≤D):=by rw [sW0] at hD;exact hD
  clear sW0 hS0 hD
  gi_wp2
  refine ⟨by simp,.inl ⟨_,_,rfl,run_takeDeferred hK,?_⟩⟩
  exact ⟨_,results_none rfl _ _ _,⟨_,rfl⟩,.inr ⟨_,livF_prefix h hSp,hJx.putObj _ hj (by have:=HD.out;omega) hK rfl⟩⟩
theorem living8_stops (h:List Ev) (w0:World) (a:Option Addr) (cap:Nat) (hT:IsEvs w0 (.slice a h.length cap) h) (hG:∀ x∈h,goodE x) (hn:h.length≤300) (bh k l:Nat) (w V:World) (hW:Below w0.heap.size w0 w) (hbox:Boxed w bh 22 (.slice a h.length cap)) (hV:Below w.heap.size w V) :
 SeqStopsW Fence.wide k Tryz.prog 242 #[.pointer (some ⟨bh,0,none⟩)] (fun x:Fin h.length=>ixV h x) (KpL w0.heap.size bh V.heap.size) (fun ys=>ys=livP h) (fun pre=>pre <+: livP h) h.length (V.heap.size+1+1+1+1) l V :=
 fun J Jx hJ hJx hY h0=>living8_in h w0 a cap hT hG hn bh k l V (hW.trans (hV.mono hW.size)) (boxed_below7 hbox hV) J Jx hJ hJx hY h0
end Go.Proofs.YtkkenfhlgpjmjaaGreatDoor
namespace Go.Proofs.YtkkenfhlgpjmjaaGreatDoor
set_option maxRecDepth 100000
open Go.RowKit Go.Shelf Go.Maps
set_option linter.unusedVariables false
structure ZSt (w:World) (t0:TypeId) (v0:Value) (t1 e k:Nat) (sl v:Value) (m:Nat) (f:Int→Option Int) (n:Nat) (xs:List Value) (W:World):Prop where
 below:Below w.heap.size w W
 size:w.heap.size+1+1+1+1+1≤W.heap.size
 b0:Boxed W (w.heap.size) t0 v0
 bv:Boxed W (w.heap.size+1) t1 v
 bm:IMap W (w.heap.size+1+1) m f
 bb:Boxed W (w.heap.size+1+1+1) 251 (.map (some (w.heap.size+1+1)))
 be:Boxed W (w.heap.size+1+1+1+1) 22 sl
 row:W.ownsRow w.heap.size e k v n xs
 far:∀ g,v.ownBlock=some g→w.heap.size+1+1+1+1+1+1+1+1+1+1+1≤g
section
variable {w:World} {t0:TypeId} {v0:Value} {t1 e k:Nat} {sl v:Value} {m:Nat} {f:Int→Option Int} {n:Nat} {xs:List Value} {W W':World} {row:Option Nat}
theorem ZSt.turn (h:ZSt w t0 v0 t1 e k sl v m f n xs W) (hg:W.grownBy W' row) (hr:∀ r,row=some r→w.heap.size+1+1+1+1+1≤r∧∃ o:Obj,W.heap[r]?=some o∧o.isCells=false):ZSt w t0 v0 t1 e k sl v m f n xs W':=by
 have o:∀ j,j < w.heap.size+1+1+1+1+1→some j≠row:=fun j hj e=>by have:=(hr j e.symm).1;omega
 exact ⟨h.below.grown hg (by have:=h.size;omega) (fun r e=>by have:=(hr r e).1;omega),Nat.le_trans h.size hg.size,h.b0.kept hg (o _ (by omega)),h.bv.kept hg (o _ (by omega)),h.bm.kept hg (o _ (by omega)),h.bb.kept hg (o _ (by omega)),h.be.kept hg (o _ (by omega)),owns_turn h.row hg (fun r e=>(hr r e).2),h.far⟩
theorem ZSt.bel (h:ZSt w t0 v0 t1 e k sl v m f n xs W) (hb:Below W.heap.size W W'):ZSt w t0 v0 t1 e k sl v m f n xs W':=h.turn (grown_below8 none hb) (fun r e=>by cases e)
theorem ZSt.map {m':Nat} {f':Int→Option Int} (h:ZSt w t0 v0 t1 e k sl v m f n xs W) (hg:W.grownBy W' (some (w.heap.size+1+1))) (hf:IMap W' (w.heap.size+1+1) m' f'):ZSt w t0 v0 t1 e k sl v m' f' n xs W':=by
 have o:∀ j,j≠w.heap.size+1+1→some j≠some (w.heap.size+1+1):=fun j hj e=>hj (Option.some.inj e)
 refine ⟨h.below.grown hg (by have:=h.size;omega) (fun r e=>by cases e;omega),Nat.le_trans h.size hg.size,h.b0.kept hg (o _ (by omega)),h.bv.kept hg (o _ (by omega)),hf,h.bb.kept hg (o _ (by omega)),h.be.kept hg (o _ (by omega)),h.row.kept hg ?_,h.far⟩
 cases hv:v.ownBlock with
 | none=>exact .inl rfl
 | some g=>exact .inr (fun e=>by have:=h.far g hv;have:=Option.some.inj e;omega)
theorem ZSt.keep (h:ZSt w t0 v0 t1 e k sl v m f n xs W) {m':Nat} {f':Int→Option Int} (hm:m≤m') (hf:f'=f):ZSt w t0 v0 t1 e k sl v m' f' n xs W:=by
 rw [hf]
 exact ⟨h.below,h.size,h.b0,h.bv,h.bm.mono hm,h.bb,h.be,h.row,h.far⟩
theorem ZSt.app {v':Value} {n':Nat} {ys:List Value} {tmp:Obj} (h:ZSt w t0 v0 t1 e k sl v m f n xs W) (hs:w.heap.size+1+1+1+1+1+1+1+1+1+1+1≤W.heap.size) (hown:W'.ownsRow w.heap.size e k v' n' ys) (hg:(W.alloc tmp).grownBy W' v.ownBlock) (hat:v'.ownBlock=v.ownBlock∨v'.ownBlock=some (W.heap.size+1)) :
 ZSt w t0 v0 t1 e k sl v' m f n' ys (W'.setCell ⟨w.heap.size+1,0,none⟩ v'):=by
 have hfar:∀ g,v'.ownBlock=some g→w.heap.size+1+1+1+1+1+1+1+1+1+1+1≤g:=fun g hv=>by
  rcases hat with e | e
  ·exact h.far g (by rw [← e];exact hv)
  ·rw [hv] at e
   have:=Option.some.inj e
   omega
 have o:∀ j,j < w.heap.size+1+1+1+1+1→some j≠v.ownBlock:=fun j hj e=>by have:=h.far j e.symm;omega
 have hsz:=hg.size
 rw [World.size_alloc] at hsz
 have hb:Below w.heap.size w W':=(h.below.alloc h.below.size _).grown hg (by simp;have:=h.size;omega) (fun r e=>by have:=h.far r e;omega)
 refine ⟨hb.setCell (p:=⟨w.heap.size+1,0,none⟩) (by first | (simp;done) | (simp;omega)) _,by simp;omega,((h.b0.alloc _).kept hg (o _ (by omega))).other (by omega) _,((h.bv.alloc _).kept hg (o _ (by omega))).set _,?_,((h.bb.alloc _).kept hg (o _ (by omega))).other (by omega) _,((h.be.alloc _).kept hg (o _ (by omega))).other (by omega) _,owns_keep7 (g:=w.heap.size+1) (j:=0) hown _ (fun e=>by have:=hfar _ e.symm;omega),hfar⟩
 refine IMap.same (W:=W') ((h.bm.kept (World.grownBy_alloc _ tmp none) (by simp)).kept hg (o _ (by omega))) ?_
 exact Below.heap_setCell _ _ _ _ (by simp)
end
theorem kpL_grown {n b A:Nat} {W W':World} {row:Option Nat} (hn:n≤W.heap.size) (hb:b < W.heap.size) (hA:A+1+1+1+1≤W.heap.size) (hg:W.grownBy W' row) (hr:∀ r,row=some r→n≤r∧r≠b∧(r < A∨A+1+1+1+1≤r)):KpL n b A W W' :=
 ⟨(Below.refl n W).grown hg hn (fun r e=>(hr r e).1),hg.block b hb (fun e=>(hr b e.symm).2.1 rfl),fun j h1 h2=>hg.block j (by omega) (fun e=>by have:=(hr j e.symm).2.2;omega)⟩
theorem kpL_bel {n b A:Nat} {W W':World} (hn:n≤W.heap.size) (hb:b < W.heap.size) (hA:A+1+1+1+1≤W.heap.size) (h:Below W.heap.size W W'):KpL n b A W W':=kpL_grown hn hb hA (grown_below8 none h) (fun r e=>by cases e)
theorem kpL_put {n b A l:Nat} {W:World} (hn:n≤l) (hb:b < l) (hl:l < A) (o:Loop) (h:W.heap[l]?=some (.loop o)) (o':Loop):KpL n b A W (W.putObj l (.loop o')):=by
 have hlt:l < W.heap.size:=(Array.getElem?_eq_some_iff.1 h).1
 refine ⟨(Below.refl n W).grown (grownBy_putObj' W l _) (by omega) (fun r e=>by cases e;exact hn),World.putObj_heap_other (by omega),fun j h1 h2=>World.putObj_heap_other (by omega)⟩
end Go.Proofs.YtkkenfhlgpjmjaaGreatDoor
namespace Go.Proofs.YtkkenfhlgpjmjaaGreatDoor
set_option maxRecDepth 100000
set_option linter.unusedVariables false
theorem lessB_lt:∀ a b:List UInt8,lessB a b=true↔a < b
 | [],[]=>by rw [lessB];simp
 | [],_::_=>by rw [lessB];simp
 | _::_,[]=>by rw [lessB];simp
 | a::l,b::m=>by
   rw [lessB,List.cons_lt_cons_iff]
   by_cases h:a < b
   ·rw [if_pos h];simp [h]
   ·rw [if_neg h]
    by_cases e:a=b
    ·rw [if_pos e,lessB_lt l m];simp [e]
    ·rw [if_neg e];simp [h,e]
theorem insK_sorted (k:List UInt8):∀ l:List (List UInt8),l.Pairwise (·< ·)→(insK k l).Pairwise (·< ·)
 | [],_=>by rw [insK];simp
 | x::l,hp=>by
   obtain ⟨h1,h2⟩:=List.pairwise_cons.1 hp
   rw [insK]
   by_cases hx:lessB x k=true
   ·rw [if_pos hx]
    refine List.pairwise_cons.2 ⟨fun y hy=>?_,insK_sorted k l h2⟩
    rcases (insK_mem k l y).1 hy with e | e
    ·rw [e];exact (lessB_lt x k).1 hx
    ·exact h1 y e
   ·rw [if_neg hx]
    by_cases e:x=k
    ·rw [if_pos e];exact hp
    ·rw [if_neg e]
     have hlt:k < x:=by
      have h3:k≤x:=List.not_lt.1 (fun hh=>hx ((lessB_lt x k).2 hh))
      rcases Classical.em (k < x) with h4 | h4
      ·exact h4
      ·exact absurd (List.le_antisymm h3 (List.not_lt.1 h4)).symm e
     refine List.pairwise_cons.2 ⟨fun y hy=>?_,hp⟩
     rcases List.mem_cons.1 hy with e' | e'
     ·rw [e'];exact hlt
     ·exact List.lt_trans hlt (h1 y e')
theorem keysF_sorted:∀ (l:List Ev) (acc:List (List UInt8)),acc.Pairwise (·< ·)→(keysF acc l).Pairwise (·< ·)
 | [],acc,h=>by rw [keysF];exact h
 | x::l,acc,h=>by
   rw [keysF]
   by_cases hk:keyedE x.1
   ·rw [if_pos hk];exact keysF_sorted l _ (insK_sorted _ _ h)
   ·rw [if_neg hk];exact keysF_sorted l _ h
theorem keysL_sorted (h:List Ev):(keysL h).Pairwise (·< ·):=keysF_sorted h [] List.Pairwise.nil
def kyS (K:List (List UInt8)) (y:Ev):List (List UInt8):=if y.1=2∨y.1=3 then (if y.2.2.1∈K then K else K++[y.2.2.1]) else K
def kyF (h:List Ev) (pre:List (Fin h.length)):List (List UInt8):=pre.foldl (fun K x=>kyS K h[x.val]) []
theorem kyF_snoc (h:List Ev) (pre:List (Fin h.length)) (x:Fin h.length):kyF h (pre++[x])=kyS (kyF h pre) h[x.val]:=by
 unfold kyF
 rw [List.foldl_append]
 rfl
theorem kyS_nodup (K:List (List UInt8)) (y:Ev) (hK:K.Nodup):(kyS K y).Nodup:=by
 unfold kyS
 by_cases h1:y.1=2∨y.1=3
 ·rw [if_pos h1]
  by_cases h2:y.2.2.1∈K
  ·rw [if_pos h2];exact hK
  ·rw [if_neg h2,List.nodup_append]
   refine ⟨hK,by simp,fun a ha b hb e=>?_⟩
   simp at hb
   rw [e,hb] at ha
   exact h2 ha
 ·rw [if_neg h1];exact hK
theorem kyS_mem (K:List (List UInt8)) (y:Ev) (k:List UInt8):k∈kyS K y↔k∈K∨((y.1=2∨y.1=3)∧y.2.2.1=k):=by
 unfold kyS
 by_cases h1:y.1=2∨y.1=3
 ·rw [if_pos h1]
  by_cases h2:y.2.2.1∈K
  ·rw [if_pos h2]
   constructor
   ·exact Or.inl
   ·rintro (h | ⟨_,e⟩)
    ·exact h
    ·rw [← e];exact h2
  ·rw [if_neg h2,List.mem_append,List.mem_singleton]
   constructor
   ·rintro (h | e)
    ·exact Or.inl h
    ·exact Or.inr ⟨h1,e.symm⟩
   ·rintro (h | ⟨_,e⟩)
    ·exact Or.inl h
    ·exact Or.inr e.symm
 ·rw [if_neg h1]
  constructor
  ·exact Or.inl
  ·rintro (h | ⟨e,_⟩)
   ·exact h
   ·exact absurd e h1
theorem kyG_nodup (h:List Ev):∀ (pre:List (Fin h.length)) (K:List (List UInt8)),K.Nodup→(pre.foldl (fun K x=>kyS K h[x.val]) K).Nodup
 | [],K,hK=>hK
 | x::pre,K,hK=>by rw [List.foldl_cons];exact kyG_nodup h pre _ (kyS_nodup K _ hK)
theorem kyG_mem (h:List Ev) (k:List UInt8):∀ (pre:List (Fin h.length)) (K:List (List UInt8)),k∈pre.foldl (fun K x=>kyS K h[x.val]) K↔k∈K∨∃ x∈pre,(h[x.val].1=2∨h[x.val].1=3)∧h[x.val].2.2.1=k
 | [],K=>by simp
 | x::pre,K=>by
   rw [List.foldl_cons,kyG_mem h k pre,kyS_mem]
   simp only [List.mem_cons,exists_eq_or_imp,or_assoc]
theorem kyG_len (h:List Ev):∀ (pre:List (Fin h.length)) (K:List (List UInt8)),(pre.foldl (fun K x=>kyS K h[x.val]) K).length≤K.length+pre.length
 | [],K=>Nat.le_refl _
 | x::pre,K=>by
   have h1:=kyG_len h pre (kyS K h[x.val])
   have h2:(kyS K h[x.val]).length≤K.length+1:=by
    unfold kyS
    by_cases h1:h[x.val].1=2∨h[x.val].1=3
    ·rw [if_pos h1]
     by_cases h2:h[x.val].2.2.1∈K
     ·rw [if_pos h2];omega
     ·rw [if_neg h2];simp
    ·rw [if_neg h1];omega
   rw [List.foldl_cons,List.length_cons]
   omega
theorem kyF_len (h:List Ev) (pre:List (Fin h.length)):(kyF h pre).length≤pre.length:=by have:=kyG_len h pre [];simpa [kyF] using this
theorem ky_sorted (h:List Ev):((kyF h (List.finRange h.length)).mergeSort fun x y=>decide (x≤y))=keysL h:=by
 have nd:(keysL h).Nodup:=List.Pairwise.imp (fun {a b} hlt e=>by rw [e] at hlt;exact List.lt_irrefl b hlt) (keysL_sorted h)
 have pm:(kyF h (List.finRange h.length)).Perm (keysL h):=by
  refine (List.perm_ext_iff_of_nodup (kyG_nodup h _ [] List.nodup_nil) nd).2 fun k=>?_
  rw [kyG_mem,keys_mem]
  constructor
  ·rintro (hh | ⟨x,_,h1,h2⟩)
   ·cases hh
   ·exact ⟨x.val,x.isLt,by rw [ev_get h _ x.isLt];exact h1,by rw [ev_get h _ x.isLt];exact h2⟩
  ·rintro ⟨i,hi,h1,h2⟩
   rw [ev_get h _ hi] at h1 h2
   exact Or.inr ⟨⟨i,hi⟩,List.mem_finRange _,h1,h2⟩
 refine List.Perm.eq_of_pairwise (le:=fun x y:List UInt8=>x≤y) (fun a b _ _ h1 h2=>List.le_antisymm h1 h2) ?_ ?_ ((List.mergeSort_perm _ _).trans pm)
 ·refine (List.pairwise_mergeSort (le:=fun x y:List UInt8=>decide (x≤y)) (fun a b c h1 h2=>?_) (fun a b=>?_) (kyF h (List.finRange h.length))).imp (fun {a b} hh=>by simpa using hh)
  ·rw [decide_eq_true_eq] at h1 h2 ⊢
   exact List.le_trans h1 h2
  ·rw [Bool.or_eq_true,decide_eq_true_eq,decide_eq_true_eq]
   exact List.le_total a b
 ·exact (keysL_sorted h).imp (fun {a b} hh=>List.le_of_lt hh)
open Go.Shelf
def lays190_ren:Go.Shelf.Ren:=⟨fun | 190=>248 | 125=>222 | 258=>284 | 128=>263 | 129=>264 | 302=>297 | 303=>298 | 304=>299 | 305=>300 | 306=>301 | 307=>302 | 308=>303 | 309=>304 | 310=>305 | 333=>307 | 329=>291 | 330=>292 | 334=>308 | 335=>309 | 336=>310 | 344=>311 | n=>n,fun | 31=>59 | 9=>9 | 3=>3 | 46=>277 | 0=>0 | 51=>193 | 53=>177 | 4=>4 | 183=>329 | 182=>328 | 131=>252 | 5=>5 | 218=>345 | 222=>349 | 228=>356 | 229=>147 | n=>n,fun | n=>n⟩
theorem lays190:Go.Proofs.Lays.n190 Tryz.prog lays190_ren:={
 mixed:=by kernel_rfl
 f125:=Tryz.func222.trans (congrArg some (by kernel_rfl))
 f128:=Tryz.func263.trans (congrArg some (by kernel_rfl))
 f129:=Tryz.func264.trans (congrArg some (by kernel_rfl))
 f190:=Tryz.func248.trans (congrArg some (by kernel_rfl))
 f258:=Tryz.func284.trans (congrArg some (by kernel_rfl))
 f302:=Tryz.func297.trans (congrArg some (by kernel_rfl))
 f303:=Tryz.func298.trans (congrArg some (by kernel_rfl))
 f304:=Tryz.func299.trans (congrArg some (by kernel_rfl))
 f305:=Tryz.func300.trans (congrArg some (by kernel_rfl))
 f306:=Tryz.func301.trans (congrArg some (by kernel_rfl))
 f307:=Tryz.func302.trans (congrArg some (by kernel_rfl))
 f308:=Tryz.func303.trans (congrArg some (by kernel_rfl))
 f309:=Tryz.func304.trans (congrArg some (by kernel_rfl))
 f310:=Tryz.func305.trans (congrArg some (by kernel_rfl))
 f329:=Tryz.func291.trans (congrArg some (by kernel_rfl))
 f330:=Tryz.func292.trans (congrArg some (by kernel_rfl))
 f333:=Tryz.func307.trans (congrArg some (by kernel_rfl))
 f334:=Tryz.func308.trans (congrArg some (by kernel_rfl))
 f335:=Tryz.func309.trans (congrArg some (by kernel_rfl))
 f336:=Tryz.func310.trans (congrArg some (by kernel_rfl))
 f344:=Tryz.func311.trans (congrArg some (by kernel_rfl))
 t0:=Tryz.underlying0
 a0:=Tryz.isAgg0
 z0:=Tryz.sizeOf0
 v0:=Tryz.zeroValue0
 t3:=Tryz.underlying3
 a3:=Tryz.isAgg3
 z3:=Tryz.sizeOf3
 v3:=Tryz.zeroValue3
 t4:=Tryz.underlying4
 a4:=Tryz.isAgg4
 z4:=Tryz.sizeOf4
 v4:=Tryz.zeroValue4
 t5:=Tryz.underlying5
 a5:=Tryz.isAgg5
 z5:=Tryz.sizeOf5
 v5:=Tryz.zeroValue5
 t9:=Tryz.underlying9
 a9:=Tryz.isAgg9
 z9:=Tryz.sizeOf9
 v9:=Tryz.zeroValue9
 t31:=Tryz.underlying59
 a31:=Tryz.isAgg59
 z31:=Tryz.sizeOf59
 v31:=Tryz.zeroValue59
 t46:=Tryz.underlying277
 a46:=Tryz.isAgg277
 z46:=Tryz.sizeOf277
 v46:=Tryz.zeroValue277
 t51:=Tryz.underlying193
 a51:=Tryz.isAgg193
 z51:=Tryz.sizeOf193
 v51:=Tryz.zeroValue193
 t53:=Tryz.underlying177
 a53:=Tryz.isAgg177
 z53:=Tryz.sizeOf177
 v53:=Tryz.zeroValue177
 t131:=Tryz.underlying252
 a131:=Tryz.isAgg252
 z131:=Tryz.sizeOf252
 v131:=Tryz.zeroValue252
 t182:=Tryz.underlying328
 a182:=Tryz.isAgg328
 z182:=Tryz.sizeOf328
 v182:=Tryz.zeroValue328
 t183:=Tryz.underlying329
 a183:=Tryz.isAgg329
 z183:=Tryz.sizeOf329
 v183:=Tryz.zeroValue329
 t218:=Tryz.underlying345
 a218:=Tryz.isAgg345
 z218:=Tryz.sizeOf345
 v218:=Tryz.zeroValue345
 t222:=Tryz.underlying349
 a222:=Tryz.isAgg349
 z222:=Tryz.sizeOf349
 v222:=Tryz.zeroValue349
 t228:=Tryz.underlying356
 a228:=Tryz.isAgg356
 z228:=Tryz.sizeOf356
 v228:=Tryz.zeroValue356
 t229:=Tryz.underlying147
 a229:=Tryz.isAgg147
 z229:=Tryz.sizeOf147
 v229:=Tryz.zeroValue147 }
theorem psort_any (blk off cap:Nat) (ss:List (List UInt8)) (w:World) (hH:Go.Sort.Holds encStr w blk off ss.toArray) (hblk:blk < w.heap.size) (hsz:ss.length < 4611686018427387904) :
 Calls Tryz.prog 248 #[.slice (some ⟨blk,off,none⟩) ss.length cap] w fun e w' =>
  e=.returned (.tuple #[])∧∃ n os,w'=Go.Sort.grow (Go.Sort.putRow encStr (Go.Sort.ahead w n) blk off (ss.mergeSort fun x y=>decide (x≤y)).toArray) os :=
 Any.slices_Sort_string lays190 blk off cap ss w hH hblk hsz
theorem psort_none (p:Option Addr) (cap:Nat) (w:World):Calls Tryz.prog 248 #[.slice p 0 cap] w fun e w'=>e=.returned (.tuple #[])∧w'=w :=
 Any.slices_Sort_string_none lays190 p cap w
end Go.Proofs.YtkkenfhlgpjmjaaGreatDoor
namespace Go.Proofs.YtkkenfhlgpjmjaaGreatDoor
set_option maxRecDepth 100000
open Go.RowKit
def TxsRow (w:World) (K:List (List UInt8)) (e:Ending) (w':World):Prop:=∃ v,e=.returned v∧Below w.heap.size w w'∧w'.ownsRow w.heap.size 9 1 v K.length (strV K)
set_option linter.unusedVariables false
def FdI (h:List Ev) (t:Int) (k:Nat) (L:Lf) (th:Bool):Prop :=
 endL h t k=none∧((fstL h t k=none∧th=false∧L=(0,0,0,false))∨∃ f,fstL h t k=some f∧th=true∧L=(t,f,h.length,false))
theorem fd_zero (h:List Ev) (t:Int):FdI h t 0 (0,0,0,false) false:=⟨rfl,Or.inl ⟨rfl,rfl,rfl⟩⟩
theorem endL_skip (h:List Ev) (t:Int) (k:Nat) (he:endL h t k=none) (hn:¬ endB (ev h k) t):endL h t (k+1)=none:=by
 rw [endL_none] at he ⊢
 intro j hj
 rcases Nat.lt_or_ge j k with h' | h'
 ·exact he j h'
 ·obtain rfl:j=k:=by omega
  exact hn
theorem fstL_old (h:List Ev) (t:Int) (k f:Nat) (he:fstL h t k=some f):fstL h t (k+1)=some f:=by
 rw [fstL_some] at he ⊢
 exact ⟨by omega,he.2⟩
theorem fstL_new (h:List Ev) (t:Int) (k:Nat) (he:fstL h t k=none) (hx:(ev h k).2.1=t):fstL h t (k+1)=some k:=by
 rw [fstL_none] at he
 rw [fstL_some]
 exact ⟨by omega,hx,he⟩
theorem fstL_skip (h:List Ev) (t:Int) (k:Nat) (he:fstL h t k=none) (hx:(ev h k).2.1≠t):fstL h t (k+1)=none:=by
 rw [fstL_none] at he ⊢
 intro j hj
 rcases Nat.lt_or_ge j k with h' | h'
 ·exact he j h'
 ·obtain rfl:j=k:=by omega
  exact hx
theorem fstL_mono (h:List Ev) (t:Int) (k n f:Nat) (hk:k≤n) (he:fstL h t k=some f):fstL h t n=some f:=by
 rw [fstL_some] at he ⊢
 exact ⟨by omega,he.2⟩
theorem fd_skip {h:List Ev} {t:Int} {k:Nat} {L:Lf} {th:Bool} (hf:FdI h t k L th) (hx:(ev h k).2.1≠t):FdI h t (k+1) L th:=by
 obtain ⟨h1,h2⟩:=hf
 refine ⟨endL_skip h t k h1 (fun hh=>hx hh.1),?_⟩
 rcases h2 with ⟨a,b,c⟩ | ⟨f,a,b,c⟩
 ·exact Or.inl ⟨fstL_skip h t k a hx,b,c⟩
 ·exact Or.inr ⟨f,fstL_old h t k f a,b,c⟩
theorem fd_new {h:List Ev} {t:Int} {k:Nat} {L:Lf} (hf:FdI h t k L false) (hx:(ev h k).2.1=t) (hn:¬ ((ev h k).1=4∨(ev h k).1=5)):FdI h t (k+1) (t,k,h.length,false) true:=by
 obtain ⟨h1,h2⟩:=hf
 refine ⟨endL_skip h t k h1 (fun hh=>hn hh.2),?_⟩
 rcases h2 with ⟨a,b,c⟩ | ⟨f,a,b,c⟩
 ·exact Or.inr ⟨k,fstL_new h t k a hx,rfl,rfl⟩
 ·cases b
theorem fd_old {h:List Ev} {t:Int} {k:Nat} {L:Lf} (hf:FdI h t k L true) (hn:¬ ((ev h k).1=4∨(ev h k).1=5)):FdI h t (k+1) L true:=by
 obtain ⟨h1,h2⟩:=hf
 refine ⟨endL_skip h t k h1 (fun hh=>hn hh.2),?_⟩
 rcases h2 with ⟨a,b,c⟩ | ⟨f,a,b,c⟩
 ·cases b
 ·exact Or.inr ⟨f,fstL_old h t k f a,rfl,c⟩
theorem fd_end {h:List Ev} {t:Int} {k:Nat} (he:endL h t k=none) (hk:k < h.length) (hx:(ev h k).2.1=t) (hn:(ev h k).1=4∨(ev h k).1=5) (f:Nat) (hf:fstL h t (k+1)=some f):findL h t=some (t,f,k,decide ((ev h k).1=4)):=by
 unfold findL
 rw [fstL_mono h t (k+1) h.length f (by omega) hf,(endL_some h t h.length k).2 ⟨hk,⟨hx,hn⟩,(endL_none h t k).1 he⟩]
theorem fd_end_new {h:List Ev} {t:Int} {k:Nat} {L:Lf} (hf:FdI h t k L false) (hk:k < h.length) (hx:(ev h k).2.1=t) (hn:(ev h k).1=4∨(ev h k).1=5):findP h t=((t,k,k,decide ((ev h k).1=4)),true):=by
 obtain ⟨h1,h2⟩:=hf
 rcases h2 with ⟨a,b,c⟩ | ⟨f,a,b,c⟩
 ·exact findP_of (fd_end h1 hk hx hn k (fstL_new h t k a hx))
 ·cases b
theorem fd_end_old {h:List Ev} {t:Int} {k:Nat} {L:Lf} (hf:FdI h t k L true) (hk:k < h.length) (hx:(ev h k).2.1=t) (hn:(ev h k).1=4∨(ev h k).1=5):findP h t=((L.1,L.2.1,k,decide ((ev h k).1=4)),true):=by
 obtain ⟨h1,h2⟩:=hf
 rcases h2 with ⟨a,b,c⟩ | ⟨f,a,b,c⟩
 ·cases b
 ·rw [c]
  exact findP_of (fd_end h1 hk hx hn f (fstL_old h t k f a))
theorem fd_done {h:List Ev} {t:Int} {L:Lf} {th:Bool} (hf:FdI h t h.length L th):findP h t=(L,th):=by
 obtain ⟨h1,h2⟩:=hf
 unfold findP findL
 rcases h2 with ⟨a,b,c⟩ | ⟨f,a,b,c⟩
 ·rw [a,b,c]
 ·rw [a,h1,b,c]
def updN (f:Int→Option Nat) (t:Int) (k:Nat):Int→Option Nat:=fun u=>if u=t then some k else f u
def lastS (h:List Ev) (key:List UInt8) (f:Int→Option Nat) (x:Fin h.length):Int→Option Nat:=if h[x.val].1=3∧h[x.val].2.2.1=key then updN f h[x.val].2.1 x.val else f
def versS (h:List Ev) (key:List UInt8) (s:(Int→Option Nat) × List Nat) (x:Fin h.length):(Int→Option Nat) × List Nat :=
 (lastS h key s.1 x,if h[x.val].1=4 then s.2++(lastS h key s.1 x h[x.val].2.1).toList else s.2)
def versF (h:List Ev) (key:List UInt8) (pre:List (Fin h.length)):(Int→Option Nat) × List Nat:=pre.foldl (versS h key) (fun _=>none,[])
theorem versF_snoc (h:List Ev) (key:List UInt8) (pre:List (Fin h.length)) (x:Fin h.length):versF h key (pre++[x])=versS h key (versF h key pre) x:=by
 unfold versF
 rw [List.foldl_append]
 rfl
theorem versF_len (h:List Ev) (key:List UInt8) (x:Fin h.length) (s:(Int→Option Nat) × List Nat):(versS h key s x).2.length≤s.2.length+1:=by
 unfold versS
 simp only
 by_cases h4:h[x.val].1=4
 ·rw [if_pos h4,List.length_append]
  cases lastS h key s.1 x h[x.val].2.1<;>simp
 ·rw [if_neg h4];omega
theorem endL_upto {h:List Ev} {t:Int} {k:Nat} (he:endL h t k=none) (hx:(ev h k).2.1=t) (h4:(ev h k).1=4∨(ev h k).1=5) (hk:k < h.length):endL h t h.length=some k:=(endL_some h t h.length k).2 ⟨hk,⟨hx,h4⟩,(endL_none h t k).1 he⟩
theorem vers_take (h:List Ev) (key:List UInt8):∀ k,k≤h.length →
 (versF h key (livF h ((List.finRange h.length).take k))).2=(List.range k).filterMap (verOf h key)∧∀ t,endL h t k=none→(versF h key (livF h ((List.finRange h.length).take k))).1 t=lastN h t key k
 | 0,_=>⟨rfl,fun t _=>rfl⟩
 | k+1,hk=>by
   obtain ⟨ih1,ih2⟩:=vers_take h key k (by omega)
   have hk':k < h.length:=by omega
   rw [fin_take hk']
   have hd:=endedIn_take h k (by omega) h[k].2.1
   have ek:=ev_get h k hk'
   rw [List.range_succ,List.filterMap_append]
   cases he:endL h h[k].2.1 k with
   | some e =>
     rw [he] at hd
     rw [livF_snoc_dead h _ ⟨k,hk'⟩ hd]
     constructor
     ·rw [ih1]
      have:verOf h key k=none:=by
       unfold verOf
       rw [if_neg]
       rintro ⟨_,h2⟩
       rw [ek] at h2
       obtain ⟨e1,e2,e3⟩:=(endL_some h _ _ _).1 he
       exact ((endL_some h _ _ _).1 h2).2.2 e (by omega) e2
      simp [this]
     ·intro t ht
      have hne:(ev h k).2.1≠t:=by
       intro hh
       rw [ek] at hh
       rw [hh] at he
       obtain ⟨e1,e2,e3⟩:=(endL_some h _ _ _).1 he
       exact (endL_none h t (k+1)).1 ht e (by omega) e2
      have h0:endL h t k=none:=(endL_none h t k).2 (fun j hj=>(endL_none h t (k+1)).1 ht j (by omega))
      rw [ih2 t h0]
      show _=la _ (k+1)
      rw [la,if_neg]
      ·rfl
      ·unfold isWrT
       rw [decide_eq_true_eq]
       exact fun hh=>hne hh.2.1
   | none =>
     rw [he] at hd
     rw [livF_snoc h _ ⟨k,hk'⟩ hd,versF_snoc]
     generalize hs:versF h key (livF h ((List.finRange h.length).take k))=s at ih1 ih2
     have hl:(lastS h key s.1 ⟨k,hk'⟩) h[k].2.1=lastN h h[k].2.1 key (k+1):=by
      show _=la _ (k+1)
      rw [la]
      unfold lastS
      simp only
      by_cases hw:h[k].1=3∧h[k].2.2.1=key
      ·rw [if_pos hw,if_pos]
       ·unfold updN;rw [if_pos rfl]
       ·unfold isWrT;rw [ek,decide_eq_true_eq];exact ⟨hw.1,rfl,hw.2⟩
      ·rw [if_neg hw,if_neg]
       ·exact ih2 _ he
       ·unfold isWrT;rw [ek,decide_eq_true_eq];exact fun hh=>hw ⟨hh.1,hh.2.2⟩
     constructor
     ·show (if h[k].1=4 then s.2++(lastS h key s.1 ⟨k,hk'⟩ h[k].2.1).toList else s.2)=_
      by_cases h4:h[k].1=4
      ·rw [if_pos h4,ih1,hl]
       have h3:¬ isWrT h h[k].2.1 key k=true:=by
        unfold isWrT;rw [ek,decide_eq_true_eq];rintro ⟨hh,_⟩;rw [h4] at hh;cases hh
       have:verOf h key k=lastN h h[k].2.1 key (k+1):=by
        unfold verOf
        rw [ek,if_pos ⟨h4,endL_upto he (by rw [ek]) (by rw [ek];exact Or.inl h4) hk'⟩]
        show _=la _ (k+1)
        rw [la,if_neg h3]
        rfl
       rw [← this]
       have e:List.filterMap (verOf h key) [k]=(verOf h key k).toList:=by cases hv:verOf h key k<;>simp [hv]
       rw [e]
      ·rw [if_neg h4,ih1]
       have:verOf h key k=none:=by
        unfold verOf
        rw [if_neg]
        rintro ⟨h1,_⟩
        rw [ek] at h1
        exact h4 h1
       simp [this]
     ·intro t ht
      by_cases hne:h[k].2.1=t
      ·subst hne;exact hl
      ·have h0:endL h t k=none:=(endL_none h t k).2 (fun j hj=>(endL_none h t (k+1)).1 ht j (by omega))
       show lastS h key s.1 ⟨k,hk'⟩ t=la _ (k+1)
       rw [la,if_neg]
       ·unfold lastS
        simp only
        by_cases hw:h[k].1=3∧h[k].2.2.1=key
        ·rw [if_pos hw]
         unfold updN
         rw [if_neg (fun e=>hne e.symm)]
         exact ih2 t h0
        ·rw [if_neg hw];exact ih2 t h0
       ·unfold isWrT
        rw [ek,decide_eq_true_eq]
        exact fun hh=>hne hh.2.1
theorem vers_liv (h:List Ev) (key:List UInt8):(versF h key (livP h)).2=versL h key:=by
 have:=(vers_take h key h.length (Nat.le_refl _)).1
 rwa [List.take_of_length_le (by rw [List.length_finRange];exact Nat.le_refl _)] at this
end Go.Proofs.YtkkenfhlgpjmjaaGreatDoor
