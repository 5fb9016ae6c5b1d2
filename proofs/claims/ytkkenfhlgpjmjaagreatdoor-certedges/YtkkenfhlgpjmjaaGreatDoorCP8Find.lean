/-
  What history.Find answers.
-/
import Derived.Test.YtkkenfhlgpjmjaaGreatDoorCP8First
import Derived.Scope
namespace Go.Proofs.YtkkenfhlgpjmjaaGreatDoor
set_option maxRecDepth 100000
open Go.RowKit Go.Shelf
set_option linter.unusedVariables false
attribute [local go_sem] Oper.semAt_some ba_size
theorem scopeW {n:Nat} {P:Program} {Q:Exit→Act→World→Prop} {a:Act} {w:World} {c:Code} (h:c.wpIn Fence.wide n P (Exit.noGoto Q) a w):(Code.scope c).wpIn Fence.wide n P Q a w:=wpIn_wide.2 (wp_scope_straight (wpIn_wide.1 h))
structure DSt (w:World) (t:Int) (sl:Value) (x:Lf) (th:Bool) (W:World):Prop where
 below:Below w.heap.size w W
 size:w.heap.size+1+1+1+1+1+1≤W.heap.size
 bh:Boxed W (w.heap.size) 22 (sl)
 bt:Boxed W (w.heap.size+1) 3 (.int .i64 t)
 br:SBox W (w.heap.size+1+1) 73 #[.int .i64 0,.int .i64 0,.int .i64 0,.bool false]
 bl:SBox W (w.heap.size+1+1+1) 73 #[.int .i64 x.1,.int .i64 (x.2.1:Int),.int .i64 (x.2.2.1:Int),.bool x.2.2.2]
 bo:Boxed W (w.heap.size+1+1+1+1) 4 (.bool th)
 be:Boxed W (w.heap.size+1+1+1+1+1) 22 (sl)
theorem DSt.bel {w:World} {t:Int} {sl:Value} {x:Lf} {th:Bool} {W W':World} (h:DSt w t sl x th W) (hb:Below (w.heap.size+1+1+1+1+1+1) W W'):DSt w t sl x th W' :=
 ⟨h.below.trans (hb.mono (by omega)),Nat.le_trans h.size hb.size,boxed_bel h.bh hb (by omega),boxed_bel h.bt hb (by omega),sbox_bel h.br hb (by omega),sbox_bel h.bl hb (by omega),boxed_bel h.bo hb (by omega),boxed_bel h.be hb (by omega)⟩
theorem DSt.new {w:World} {t:Int} {sl:Value} {x:Lf} {th:Bool} {W:World} (h:DSt w t sl x th W) (y:Lf):DSt w t sl y true (((((W.setCell ⟨w.heap.size+1+1+1,0,none⟩ (.int .i64 y.1)).setCell ⟨w.heap.size+1+1+1,1,none⟩ (.int .i64 (y.2.1:Int))).setCell ⟨w.heap.size+1+1+1,2,none⟩ (.int .i64 (y.2.2.1:Int))).setCell ⟨w.heap.size+1+1+1,3,none⟩ (.bool y.2.2.2)).setCell ⟨w.heap.size+1+1+1+1,0,none⟩ (.bool true)):=by
 have o:∀ b,b≠w.heap.size+1+1+1→b≠w.heap.size+1+1+1+1→(((((W.setCell ⟨w.heap.size+1+1+1,0,none⟩ (.int .i64 y.1)).setCell ⟨w.heap.size+1+1+1,1,none⟩ (.int .i64 (y.2.1:Int))).setCell ⟨w.heap.size+1+1+1,2,none⟩ (.int .i64 (y.2.2.1:Int))).setCell ⟨w.heap.size+1+1+1,3,none⟩ (.bool y.2.2.2)).setCell ⟨w.heap.size+1+1+1+1,0,none⟩ (.bool true)).heap[b]?=W.heap[b]?:=fun b h3 h4=>by
  rw [Below.heap_setCell _ _ _ b h4,Below.heap_setCell _ _ _ b h3,Below.heap_setCell _ _ _ b h3,Below.heap_setCell _ _ _ b h3,Below.heap_setCell _ _ _ b h3]
 refine ⟨(bel_put4 h.below (by omega) _ _ _ _).setCell (p:=⟨w.heap.size+1+1+1+1,0,none⟩) (by simp;omega) _,by simp;exact h.size,(o _ (by omega) (by omega)).trans h.bh,(o _ (by omega) (by omega)).trans h.bt,(o _ (by omega) (by omega)).trans h.br,((h.bl.put4 _ _ _ _).other _ _ _ (by omega)),?_,(o _ (by omega) (by omega)).trans h.be⟩
 have h4:Boxed ((((W.setCell ⟨w.heap.size+1+1+1,0,none⟩ (.int .i64 y.1)).setCell ⟨w.heap.size+1+1+1,1,none⟩ (.int .i64 (y.2.1:Int))).setCell ⟨w.heap.size+1+1+1,2,none⟩ (.int .i64 (y.2.2.1:Int))).setCell ⟨w.heap.size+1+1+1,3,none⟩ (.bool y.2.2.2)) (w.heap.size+1+1+1+1) 4 (.bool th):=by
  show _=_
  rw [Below.heap_setCell _ _ _ _ (by simp),Below.heap_setCell _ _ _ _ (by simp),Below.heap_setCell _ _ _ _ (by simp),Below.heap_setCell _ _ _ _ (by simp)]
  exact h.bo
 exact h4.set _
theorem DSt.fin {w:World} {t:Int} {sl:Value} {x:Lf} {th:Bool} {W:World} (h:DSt w t sl x th W) (i:Nat) (b:Bool):DSt w t sl (x.1,x.2.1,i,b) th ((W.setCell ⟨w.heap.size+1+1+1,2,none⟩ (.int .i64 (i:Int))).setCell ⟨w.heap.size+1+1+1,3,none⟩ (.bool b)):=by
 have o:∀ c,c≠w.heap.size+1+1+1→((W.setCell ⟨w.heap.size+1+1+1,2,none⟩ (.int .i64 (i:Int))).setCell ⟨w.heap.size+1+1+1,3,none⟩ (.bool b)).heap[c]?=W.heap[c]?:=fun c h3=>by
  rw [Below.heap_setCell _ _ _ c h3,Below.heap_setCell _ _ _ c h3]
 exact ⟨(h.below.setCell (p:=⟨w.heap.size+1+1+1,2,none⟩) (by simp;omega) _).setCell (p:=⟨w.heap.size+1+1+1,3,none⟩) (by simp;omega) _,by simp;exact h.size,(o _ (by omega)).trans h.bh,(o _ (by omega)).trans h.bt,(o _ (by omega)).trans h.br,(h.bl.set 2 _).set 3 _,(o _ (by omega)).trans h.bo,(o _ (by omega)).trans h.be⟩
def DInv (w:World) (t:Int) (sl:Value) (h:List Ev) (pre:List (Fin h.length)) (W:World):Prop :=
 ∃ L th,DSt w t sl L th W∧(pre <+: List.finRange h.length→FdI h t pre.length L th)
def DOut (w:World) (t:Int) (sl:Value) (h:List Ev) (c:Code) (pre:List (Fin h.length)) (W:World):Prop :=
 c=.exit 0∧∃ L th,DSt w t sl L th W∧(pre <+: List.finRange h.length→findP h t=(L,th))
set_option maxHeartbeats 4000000 in
theorem pfind8_any (h:List Ev) (v:Value) (w:World) (t:Int) (hT:IsEvs w v h) :
 Calls Tryz.prog 170 #[v,.int .i64 t] w fun e w'=>e=.returned (.tuple #[lifA (findP h t).1,.bool (findP h t).2])∧Below w.heap.size w w':=by
 have hT0:=hT
 obtain ⟨a,cap,rfl,h1,h2,h3,HC⟩:=hT.some_at
 clear HC hT
 refine (callsIn_wide (n:=3)).1 ?_
 refine callsIn_of_wp_marks Tryz.func170 rfl trivial ?_ rfl
 simp only [Tryz.ntmps170,List.size_toArray,List.length_cons,List.length_nil,Nat.reduceAdd,Nat.reduceSub,Array.replicate_succ,Array.replicate_zero,List.push_toArray,List.append_toArray,List.nil_append,List.cons_append]
 gi_wp2
 refine scopeW ?_
 gi_wp2
 refine wpIn_label ?_
 gi_wp2_with ((try refine ⟨trivial,?_⟩);gi_at_call 135;refine (callsIn_wide.2 (pevents8_any _ _ _ _)).mono ?_;rintro e w2 ⟨rfl,rfl⟩)
 have hS0:DSt w t (.slice a h.length cap) (0,0,0,false) false ((((((w.alloc (.cells #[.slice a h.length cap] 22)).alloc (.cells #[.int .i64 t] 3)).alloc (.cells #[.int .i64 0,.int .i64 0,.int .i64 0,.bool false] 73)).alloc (.cells #[.int .i64 0,.int .i64 0,.int .i64 0,.bool false] 73)).alloc (.cells #[.bool false] 4)).alloc (.cells #[.slice a h.length cap] 22)):=by
  have b0:=((((((Boxed.new w 22 (.slice a h.length cap)).alloc (.cells #[.int .i64 t] 3)).alloc (.cells #[.int .i64 0,.int .i64 0,.int .i64 0,.bool false] 73)).alloc (.cells #[.int .i64 0,.int .i64 0,.int .i64 0,.bool false] 73)).alloc (.cells #[.bool false] 4)).alloc (.cells #[.slice a h.length cap] 22))
  have b1:=(((((Boxed.new (w.alloc (.cells #[.slice a h.length cap] 22)) 3 (.int .i64 t)).alloc (.cells #[.int .i64 0,.int .i64 0,.int .i64 0,.bool false] 73)).alloc (.cells #[.int .i64 0,.int .i64 0,.int .i64 0,.bool false] 73)).alloc (.cells #[.bool false] 4)).alloc (.cells #[.slice a h.length cap] 22))
  have b2:=((((SBox.new ((w.alloc (.cells #[.slice a h.length cap] 22)).alloc (.cells #[.int .i64 t] 3)) 73 #[.int .i64 0,.int .i64 0,.int .i64 0,.bool false]).alloc (.cells #[.int .i64 0,.int .i64 0,.int .i64 0,.bool false] 73)).alloc (.cells #[.bool false] 4)).alloc (.cells #[.slice a h.length cap] 22))
  have b3:=(((SBox.new (((w.alloc (.cells #[.slice a h.length cap] 22)).alloc (.cells #[.int .i64 t] 3)).alloc (.cells #[.int .i64 0,.int .i64 0,.int .i64 0,.bool false] 73)) 73 #[.int .i64 0,.int .i64 0,.int .i64 0,.bool false]).alloc (.cells #[.bool false] 4)).alloc (.cells #[.slice a h.length cap] 22))
  have b4:=((Boxed.new ((((w.alloc (.cells #[.slice a h.length cap] 22)).alloc (.cells #[.int .i64 t] 3)).alloc (.cells #[.int .i64 0,.int .i64 0,.int .i64 0,.bool false] 73)).alloc (.cells #[.int .i64 0,.int .i64 0,.int .i64 0,.bool false] 73)) 4 (.bool false)).alloc (.cells #[.slice a h.length cap] 22))
  have b5:=(Boxed.new (((((w.alloc (.cells #[.slice a h.length cap] 22)).alloc (.cells #[.int .i64 t] 3)).alloc (.cells #[.int .i64 0,.int .i64 0,.int .i64 0,.bool false] 73)).alloc (.cells #[.int .i64 0,.int .i64 0,.int .i64 0,.bool false] 73)).alloc (.cells #[.bool false] 4)) 22 (.slice a h.length cap))
  (try simp only [World.size_alloc] at b0 b1 b2 b3 b4 b5)
  exact ⟨(((((((Below.refl _ w).alloc (by first | exact Nat.le_refl _ | (simp only [World.size_alloc];omega)) _).alloc (by first | exact Nat.le_refl _ | (simp only [World.size_alloc];omega)) _).alloc (by first | exact Nat.le_refl _ | (simp only [World.size_alloc];omega)) _).alloc (by first | exact Nat.le_refl _ | (simp only [World.size_alloc];omega)) _).alloc (by first | exact Nat.le_refl _ | (simp only [World.size_alloc];omega)) _).alloc (by first | exact Nat.le_refl _ | (simp only [World.size_alloc];omega)) _),(by simp),b0,b1,b2,b3,b4,b5⟩
 obtain ⟨W0,hW0⟩:∃ W0,((((((w.alloc (.cells #[.slice a h.length cap] 22)).alloc (.cells #[.int .i64 t] 3)).alloc (.cells #[.int .i64 0,.int .i64 0,.int .i64 0,.bool false] 73)).alloc (.cells #[.int .i64 0,.int .i64 0,.int .i64 0,.bool false] 73)).alloc (.cells #[.bool false] 4)).alloc (.cells #[.slice a h.length cap] 22))=W0:=⟨_,rfl⟩
 have sW0:W0.heap.size=w.heap.size+1+1+1+1+1+1:=by rw [← hW0];simp
 change Code.wpIn _ _ _ _ _ _ ((((((w.alloc (.cells #[.slice a h.length cap] 22)).alloc (.cells #[.int .i64 t] 3)).alloc (.cells #[.int .i64 0,.int .i64 0,.int .i64 0,.bool false] 73)).alloc (.cells #[.int .i64 0,.int .i64 0,.int .i64 0,.bool false] 73)).alloc (.cells #[.bool false] 4)).alloc (.cells #[.slice a h.length cap] 22))
 rw [hW0] at hS0 ⊢
 clear hW0
 refine wpIn_rangeFunc_ownH rfl (by omega) (gf:=192) (lb:=#[.pointer (some ⟨w.heap.size+1+1+1+1+1,0,none⟩)]) rfl trivial (enters_of Tryz.func192 (by kernel_rfl) rfl)
  (events8_stops h w a cap hT0 (w.heap.size+1+1+1+1+1) (3 - 1) W0 hS0.below hS0.be) (fun h k=>kpE_t h k) (kpE_b (by omega) (by omega)) (Below.refl _ _) (fun _=>rfl)
  (DInv w t (.slice a h.length cap) h) (DOut w t (.slice a h.length cap) h)
  (ownFrom_of_below (fun _ W ⟨m,th,h1,_⟩=>by rw [sW0];exact h1.size) (fun _ W W' ⟨m,th,h1,h2⟩ hb=>⟨m,th,h1.bel (by rw [sW0] at hb;exact hb),h2⟩))
  (fun c=>ownFrom_of_below (fun _ W ⟨h1,m,th,h2,h3⟩=>by rw [sW0];exact h2.size) (fun _ W W' ⟨h1,m,th,h2,h3⟩ hb=>⟨h1,m,th,h2.bel (by rw [sW0] at hb;exact hb),h3⟩))
  ⟨_,_,hS0,fun _=>fd_zero h t⟩
  (fun x a' W=>∃ Bx,w.heap.size+1+1+1+1+1 < Bx∧SBox W Bx 64 #[.int .i64 h[x.val].1,.int .i64 h[x.val].2.1,.string ⟨h[x.val].2.2.1.toArray⟩,.string ⟨h[x.val].2.2.2.toArray⟩]∧a'={ tmps:=#[.slice a h.length cap,.int .i64 t,.pointer (some ⟨w.heap.size,0,none⟩),.pointer (some ⟨w.heap.size+1,0,none⟩),.pointer (some ⟨w.heap.size+1+1,0,none⟩),.bool false,.pointer (some ⟨w.heap.size+1+1+1,0,none⟩),.pointer (some ⟨w.heap.size+1+1+1+1,0,none⟩),.int .i64 (x.val:Int),.pointer (some ⟨Bx,0,none⟩),.slice a h.length cap,eventsF8 (w.heap.size+1+1+1+1+1),.int .i64 (x.val:Int),evW h[x.val],undef,undef,undef,undef,undef,undef,undef,undef,undef,undef,undef,undef,undef,undef,undef,undef,undef,undef,undef,undef,undef,undef,undef,undef,undef,undef],defers:=[] })
  (fun x a' _ A B row hs hg hr=>by
   obtain ⟨Bx,h1,h2,h4⟩:=hs
   exact ⟨Bx,h1,block_kept h2 hg (fun r e=>(hr r e).2),h4⟩)
  ?assign ?body ?done ?stop
 case assign =>
  rintro l pre x W K ⟨m,th,hS,hp⟩ hK
  have hsz:=hS.size
  gi_wp2
  refine hK _ _ ((KeepsOthers.alloc _ _).from _) ⟨(Below.refl _ W).alloc (by omega) _,Below.heap_alloc W _ _ (by omega)⟩ ⟨m,th,hS.bel ((Below.refl _ W).alloc hsz _),hp⟩ ⟨W.heap.size,by omega,SBox.new W _ _,rfl⟩
 case body =>
  rintro l pre x a' W hl hrec ⟨m,th,hS,hp⟩ ⟨Bx,hBx,hblk,rfl⟩ hlt
  have HW0:Hid (W0.heap.size=w.heap.size+1+1+1+1+1+1):=sW0
  clear sW0 hS0 hl hrec
  have hsz:=hS.size
  have hxn:=x.isLt
  obtain ⟨⟨y0,y1,y2,y3⟩,hy⟩:∃ y,h[x.val]=y:=⟨_,rfl⟩
  have HY:Hid (h[x.val]=(y0,y1,y2,y3)):=hy
  rw [hy] at hblk ⊢
  simp only at hblk
  clear hy
  have q0:=hblk.cell 0 _ rfl
  have q1:=hblk.cell 1 _ rfl
  have q2:=hblk.cell 2 _ rfl
  have q3:=hblk.cell 3 _ rfl
  obtain ⟨i,hxi⟩:∃ i,x.val=i:=⟨_,rfl⟩
  have HI:Hid (x.val=i):=hxi
  rw [hxi] at hxn ⊢
  clear hxi
  have c0:=hS.bt.cell
  have c1:=hS.bo.cell
  have EK:Hid (x.val=pre.length→pre.length < h.length→ev h pre.length=(y0,y1,y2,y3)):=fun hp2 hp3=>by
   have e:=HY.out
   rw [ev_get h _ hp3]
   simp only [hp2] at e
   exact e
  by_cases d1:y1=t
  ·have e1:(y1 != t)=false:=by rw [d1];simp
   have D1:Hid (y1=t):=d1
   clear d1
   cases th with
   | false =>
     have c2:=hS.bh.cell
     have l0:=hS.bl.cell 0 _ rfl
     have l1:=hS.bl.cell 1 _ rfl
     have l2:=hS.bl.cell 2 _ rfl
     have l3:=hS.bl.cell 3 _ rfl
     have m0:=hS.bl.frozen 0
     have m1:=hS.bl.frozen 1
     have m2:=hS.bl.frozen 2
     have m3:=hS.bl.frozen 3
     have g4:=hS.bo.frozen
     obtain ⟨W2,hW2⟩:∃ W2,(((((W.setCell ⟨w.heap.size+1+1+1,0,none⟩ (.int .i64 t)).setCell ⟨w.heap.size+1+1+1,1,none⟩ (.int .i64 (i:Int))).setCell ⟨w.heap.size+1+1+1,2,none⟩ (.int .i64 (h.length:Int))).setCell ⟨w.heap.size+1+1+1,3,none⟩ (.bool false)).setCell ⟨w.heap.size+1+1+1+1,0,none⟩ (.bool true))=W2:=⟨_,rfl⟩
     have KK:KeepsOthers W W2:=by rw [← hW2];exact ((((KeepsOthers.setCell W _ _).trans (KeepsOthers.setCell _ _ _)).trans (KeepsOthers.setCell _ _ _)).trans (KeepsOthers.setCell _ _ _)).trans (KeepsOthers.setCell _ _ _)
     have hS2:DSt w t (.slice a h.length cap) (t,i,h.length,false) true W2:=by rw [← hW2];exact hS.new (t,i,h.length,false)
     have BB:KpE w.heap.size (w.heap.size+1+1+1+1+1) W W2:=⟨by rw [← hW2];exact (bel_put4 (Below.refl _ W) (by omega) _ _ _ _).setCell (p:=⟨w.heap.size+1+1+1+1,0,none⟩) (by simp;omega) _,hS2.be.trans hS.be.symm⟩
     have hB2:SBox W2 Bx 64 #[.int .i64 y0,.int .i64 y1,.string ⟨y2.toArray⟩,.string ⟨y3.toArray⟩]:=by rw [← hW2];exact SBox.other (SBox.put4_other hblk (by omega) _ _ _ _) _ _ _ (by omega)
     have Q0:W2.cell? ⟨Bx,0,none⟩=some (.int .i64 y0):=hB2.cell 0 _ rfl
     have q9:(((((W.setCell ⟨w.heap.size+1+1+1,0,none⟩ (.int .i64 t)).setCell ⟨w.heap.size+1+1+1,1,none⟩ (.int .i64 (i:Int))).setCell ⟨w.heap.size+1+1+1,2,none⟩ (.int .i64 (h.length:Int))).setCell ⟨w.heap.size+1+1+1,3,none⟩ (.bool false)).setCell ⟨w.heap.size+1+1+1+1,0,none⟩ (.bool true)).cell? ⟨Bx,0,none⟩=some (.int .i64 y0):=by rw [hW2];exact Q0
     clear q0 q2 q3
     obtain ⟨x2,hx2⟩:∃ x2:Lf,((t,i,h.length,false):Lf)=x2:=⟨_,rfl⟩
     have XE:Hid (x2=((t,i,h.length,false):Lf)):=hx2.symm
     rw [hx2] at hS2
     clear hx2
     by_cases hk:y0=4
     ·have e4:(y0==4)=true:=by rw [hk];rfl
      have HN:Hid ((y0=4∨y0=5)∧decide (y0=4)=true):=⟨Or.inl hk,by rw [hk];rfl⟩
      clear hk
      have l2:=hS2.bl.cell 2 _ rfl
      have m2:=hS2.bl.frozen 2
      have l3:(W2.setCell ⟨w.heap.size+1+1+1,2,none⟩ (.int .i64 (i:Int))).cell? ⟨w.heap.size+1+1+1,3,none⟩=some (.bool x2.2.2.2):=(SBox.set (w:=W2) hS2.bl 2 _).cell 3 _ rfl
      have l3':W2.cell? ⟨w.heap.size+1+1+1,3,none⟩=some (.bool x2.2.2.2):=hS2.bl.cell 3 _ rfl
      have m3:=hS2.bl.frozen 3
      have q5:(W2.drew.setCell ⟨w.heap.size+1+1+1,2,none⟩ (.int .i64 (i:Int))).cell? ⟨Bx,0,none⟩=some (.int .i64 y0):=(SBox.other (w:=W2.drew) hB2 _ _ _ (by omega)).cell 0 _ rfl
      have HF:Hid (KeepsFrom W0.heap.size W ((W2.drew.setCell ⟨w.heap.size+1+1+1,2,none⟩ (.int .i64 (i:Int))).setCell ⟨w.heap.size+1+1+1,3,none⟩ (.bool true))∧DOut w t (.slice a h.length cap) h (.exit 0) (pre++[x]) ((W2.drew.setCell ⟨w.heap.size+1+1+1,2,none⟩ (.int .i64 (i:Int))).setCell ⟨w.heap.size+1+1+1,3,none⟩ (.bool true))) :=
       ⟨(((KK.trans (KeepsOthers.drew _)).trans (KeepsOthers.setCell _ _ _)).trans (KeepsOthers.setCell _ _ _)).from _,rfl,_,_,DSt.fin (W:=W2.drew) ⟨hS2.below.drew,hS2.size,hS2.bh,hS2.bt,hS2.br,hS2.bl,hS2.bo,hS2.be⟩ i true,fun hpre=>by
         obtain ⟨hp1,hp2,hp3⟩:=fin_prefix hpre
         have ei:=HI.out
         have ek:=EK.out hp2 hp3
         have hk:=HN.out
         have hf:=hp hp1
         obtain rfl:i=pre.length:=by omega
         exact by
          rw [fd_end_new hf hp3 (by rw [ek];exact D1.out) (by rw [ek];exact hk.1),ek,hk.2,XE.out]⟩
      clear hS hS2 hp HY HI EK HN KK BB D1 XE
      gi_wp2
      refine regionIn_any (by kernel_rfl) (fun ⟨_,_,h⟩=>h) (by kernel_rfl) ?_
      refine any_of_C (C:=fun V=>V.cell? ⟨Bx,0,none⟩=some (.int .i64 y0)) 7 _ _ _ _ ?_
      refine takeC (i:=0) (v:=.int .i64 (i:Int)) rfl (by kernel_rfl) (by kernel_rfl) (by kernel_rfl) (by kernel_rfl) (by kernel_rfl) (fun _ _ _ h=>h) (Or.inl ⟨by kernel_rfl,fun V r0=>by go_simp⟩) ?_
      refine takeC (i:=1) (v:=.pointer (some ⟨Bx,0,none⟩)) rfl (by kernel_rfl) (by kernel_rfl) (by kernel_rfl) (by kernel_rfl) (by kernel_rfl) (fun _ _ _ h=>h) (Or.inl ⟨by kernel_rfl,fun V r0=>by go_simp⟩) ?_
      refine takeC (i:=2) (v:=.int .i64 y0) rfl (by kernel_rfl) (by kernel_rfl) (by kernel_rfl) (by kernel_rfl) (by kernel_rfl) (fun _ _ _ h=>h) (Or.inl ⟨by kernel_rfl,fun V r0=>by go_simp⟩) ?_
      refine takeC (i:=3) (v:=.bool true) rfl (by kernel_rfl) (by kernel_rfl) (by kernel_rfl) (by kernel_rfl) (by kernel_rfl) (fun _ _ _ h=>h) (Or.inl ⟨by kernel_rfl,fun V r0=>by go_simp⟩) ?_
      refine takeC (i:=4) (v:=.pointer (some ⟨w.heap.size+1+1+1,2,none⟩)) rfl (by kernel_rfl) (by kernel_rfl) (by kernel_rfl) (by kernel_rfl) (by kernel_rfl) (fun _ _ _ h=>h) (Or.inl ⟨by kernel_rfl,fun V r0=>by go_simp⟩) ?_
      refine consC (i:=5) (by kernel_rfl) (by kernel_rfl) Q0 rfl (fun K' hK=>?_)
      go_wp2_with fail
      refine takeC (i:=6) (v:=.pointer (some ⟨w.heap.size+1+1+1,3,none⟩)) rfl (by kernel_rfl) (by kernel_rfl) (by kernel_rfl) (by kernel_rfl) (by kernel_rfl) (fun _ _ _ h=>h) (Or.inl ⟨by kernel_rfl,fun V r0=>by go_simp⟩) ?_
      refine lastC (by kernel_rfl) (by kernel_rfl) q5 (of_decide_eq_true (by kernel_rfl)) ?_
      refine any_seqI [7] [_] _ _ _ rfl (by kernel_rfl) ?_
      go_wp2_with fail
      gi_wp2
      exact HF.out
     ·have e4:(y0==4)=false:=beq_eq_false_iff_ne.2 hk
      have H4:Hid (¬ y0=4):=hk
      clear hk
      by_cases hk:y0=5
      ·have e5:(y0==5)=true:=by rw [hk];rfl
       have HN:Hid ((y0=4∨y0=5)∧decide (y0=4)=false):=⟨Or.inr hk,by rw [hk];rfl⟩
       clear hk
       have l2:=hS2.bl.cell 2 _ rfl
       have m2:=hS2.bl.frozen 2
       have l3:(W2.setCell ⟨w.heap.size+1+1+1,2,none⟩ (.int .i64 (i:Int))).cell? ⟨w.heap.size+1+1+1,3,none⟩=some (.bool x2.2.2.2):=(SBox.set (w:=W2) hS2.bl 2 _).cell 3 _ rfl
       have l3':W2.cell? ⟨w.heap.size+1+1+1,3,none⟩=some (.bool x2.2.2.2):=hS2.bl.cell 3 _ rfl
       have m3:=hS2.bl.frozen 3
       have q5:(W2.drew.setCell ⟨w.heap.size+1+1+1,2,none⟩ (.int .i64 (i:Int))).cell? ⟨Bx,0,none⟩=some (.int .i64 y0):=(SBox.other (w:=W2.drew) hB2 _ _ _ (by omega)).cell 0 _ rfl
       have HF:Hid (KeepsFrom W0.heap.size W ((W2.drew.setCell ⟨w.heap.size+1+1+1,2,none⟩ (.int .i64 (i:Int))).setCell ⟨w.heap.size+1+1+1,3,none⟩ (.bool false))∧DOut w t (.slice a h.length cap) h (.exit 0) (pre++[x]) ((W2.drew.setCell ⟨w.heap.size+1+1+1,2,none⟩ (.int .i64 (i:Int))).setCell ⟨w.heap.size+1+1+1,3,none⟩ (.bool false))) :=
        ⟨(((KK.trans (KeepsOthers.drew _)).trans (KeepsOthers.setCell _ _ _)).trans (KeepsOthers.setCell _ _ _)).from _,rfl,_,_,DSt.fin (W:=W2.drew) ⟨hS2.below.drew,hS2.size,hS2.bh,hS2.bt,hS2.br,hS2.bl,hS2.bo,hS2.be⟩ i false,fun hpre=>by
          obtain ⟨hp1,hp2,hp3⟩:=fin_prefix hpre
          have ei:=HI.out
          have ek:=EK.out hp2 hp3
          have hk:=HN.out
          have hf:=hp hp1
          obtain rfl:i=pre.length:=by omega
          exact by
           rw [fd_end_new hf hp3 (by rw [ek];exact D1.out) (by rw [ek];exact hk.1),ek,hk.2,XE.out]⟩
       clear hS hS2 hp HY HI EK HN KK BB D1 XE
       gi_wp2
       refine regionIn_any (by kernel_rfl) (fun ⟨_,_,h⟩=>h) (by kernel_rfl) ?_
       refine any_of_C (C:=fun V=>V.cell? ⟨Bx,0,none⟩=some (.int .i64 y0)) 7 _ _ _ _ ?_
       refine takeC (i:=0) (v:=.int .i64 (i:Int)) rfl (by kernel_rfl) (by kernel_rfl) (by kernel_rfl) (by kernel_rfl) (by kernel_rfl) (fun _ _ _ h=>h) (Or.inl ⟨by kernel_rfl,fun V r0=>by go_simp⟩) ?_
       refine takeC (i:=1) (v:=.pointer (some ⟨Bx,0,none⟩)) rfl (by kernel_rfl) (by kernel_rfl) (by kernel_rfl) (by kernel_rfl) (by kernel_rfl) (fun _ _ _ h=>h) (Or.inl ⟨by kernel_rfl,fun V r0=>by go_simp⟩) ?_
       refine takeC (i:=2) (v:=.int .i64 y0) rfl (by kernel_rfl) (by kernel_rfl) (by kernel_rfl) (by kernel_rfl) (by kernel_rfl) (fun _ _ _ h=>h) (Or.inl ⟨by kernel_rfl,fun V r0=>by go_simp⟩) ?_
       refine takeC (i:=3) (v:=.bool false) rfl (by kernel_rfl) (by kernel_rfl) (by kernel_rfl) (by kernel_rfl) (by kernel_rfl) (fun _ _ _ h=>h) (Or.inl ⟨by kernel_rfl,fun V r0=>by go_simp⟩) ?_
       refine takeC (i:=4) (v:=.pointer (some ⟨w.heap.size+1+1+1,2,none⟩)) rfl (by kernel_rfl) (by kernel_rfl) (by kernel_rfl) (by kernel_rfl) (by kernel_rfl) (fun _ _ _ h=>h) (Or.inl ⟨by kernel_rfl,fun V r0=>by go_simp⟩) ?_
       refine consC (i:=5) (by kernel_rfl) (by kernel_rfl) Q0 rfl (fun K' hK=>?_)
       go_wp2_with fail
       refine takeC (i:=6) (v:=.pointer (some ⟨w.heap.size+1+1+1,3,none⟩)) rfl (by kernel_rfl) (by kernel_rfl) (by kernel_rfl) (by kernel_rfl) (by kernel_rfl) (fun _ _ _ h=>h) (Or.inl ⟨by kernel_rfl,fun V r0=>by go_simp⟩) ?_
       refine lastC (by kernel_rfl) (by kernel_rfl) q5 (of_decide_eq_true (by kernel_rfl)) ?_
       refine any_seqI [7] [_] _ _ _ rfl (by kernel_rfl) ?_
       go_wp2_with fail
       gi_wp2
       exact HF.out
      ·have e5:(y0==5)=false:=beq_eq_false_iff_ne.2 hk
       have HN:Hid (¬ (y0=4∨y0=5)):=fun hh=>hh.elim H4.out hk
       clear hk
       have HF:Hid (KeepsFrom W0.heap.size W W2∧KpE w.heap.size (w.heap.size+1+1+1+1+1) W W2∧DInv w t (.slice a h.length cap) h (pre++[x]) W2) :=
        ⟨KK.from _,BB,_,_,hS2,fun hpre=>by
         obtain ⟨hp1,hp2,hp3⟩:=fin_prefix hpre
         have ei:=HI.out
         have ek:=EK.out hp2 hp3
         have hf:=hp hp1
         obtain rfl:i=pre.length:=by omega
         rw [List.length_append,List.length_singleton]
         exact by rw [XE.out];exact fd_new hf (by rw [ek];exact D1.out) (by rw [ek];exact HN.out)⟩
       clear hS hS2 hp HY HI EK HN KK BB D1 XE H4
       gi_wp2
       exact HF.out
   | true =>
     have KK:KeepsOthers W W:=KeepsOthers.refl _
     have hS2:=hS
     have BB:KpE w.heap.size (w.heap.size+1+1+1+1+1) W W:=⟨Below.refl _ _,rfl⟩
     have hB2:=hblk
     have Q0:W.cell? ⟨Bx,0,none⟩=some (.int .i64 y0):=hblk.cell 0 _ rfl
     obtain ⟨x2,hx2⟩:∃ x2:Lf,m=x2:=⟨_,rfl⟩
     have XE:Hid (x2=m):=hx2.symm
     rw [hx2] at hS2
     clear hx2
     by_cases hk:y0=4
     ·have e4:(y0==4)=true:=by rw [hk];rfl
      have HN:Hid ((y0=4∨y0=5)∧decide (y0=4)=true):=⟨Or.inl hk,by rw [hk];rfl⟩
      clear hk
      have l2:=hS2.bl.cell 2 _ rfl
      have m2:=hS2.bl.frozen 2
      have l3:(W.setCell ⟨w.heap.size+1+1+1,2,none⟩ (.int .i64 (i:Int))).cell? ⟨w.heap.size+1+1+1,3,none⟩=some (.bool x2.2.2.2):=(SBox.set (w:=W) hS2.bl 2 _).cell 3 _ rfl
      have l3':W.cell? ⟨w.heap.size+1+1+1,3,none⟩=some (.bool x2.2.2.2):=hS2.bl.cell 3 _ rfl
      have m3:=hS2.bl.frozen 3
      have q5:(W.drew.setCell ⟨w.heap.size+1+1+1,2,none⟩ (.int .i64 (i:Int))).cell? ⟨Bx,0,none⟩=some (.int .i64 y0):=(SBox.other (w:=W.drew) hB2 _ _ _ (by omega)).cell 0 _ rfl
      have HF:Hid (KeepsFrom W0.heap.size W ((W.drew.setCell ⟨w.heap.size+1+1+1,2,none⟩ (.int .i64 (i:Int))).setCell ⟨w.heap.size+1+1+1,3,none⟩ (.bool true))∧DOut w t (.slice a h.length cap) h (.exit 0) (pre++[x]) ((W.drew.setCell ⟨w.heap.size+1+1+1,2,none⟩ (.int .i64 (i:Int))).setCell ⟨w.heap.size+1+1+1,3,none⟩ (.bool true))) :=
       ⟨(((KK.trans (KeepsOthers.drew _)).trans (KeepsOthers.setCell _ _ _)).trans (KeepsOthers.setCell _ _ _)).from _,rfl,_,_,DSt.fin (W:=W.drew) ⟨hS2.below.drew,hS2.size,hS2.bh,hS2.bt,hS2.br,hS2.bl,hS2.bo,hS2.be⟩ i true,fun hpre=>by
         obtain ⟨hp1,hp2,hp3⟩:=fin_prefix hpre
         have ei:=HI.out
         have ek:=EK.out hp2 hp3
         have hk:=HN.out
         have hf:=hp hp1
         obtain rfl:i=pre.length:=by omega
         exact by
          rw [fd_end_old hf hp3 (by rw [ek];exact D1.out) (by rw [ek];exact hk.1),ek,hk.2,XE.out]⟩
      clear hS hS2 hp HY HI EK HN KK BB D1 XE
      gi_wp2
      refine regionIn_any (by kernel_rfl) (fun ⟨_,_,h⟩=>h) (by kernel_rfl) ?_
      refine any_of_C (C:=fun V=>V.cell? ⟨Bx,0,none⟩=some (.int .i64 y0)) 7 _ _ _ _ ?_
      refine takeC (i:=0) (v:=.int .i64 (i:Int)) rfl (by kernel_rfl) (by kernel_rfl) (by kernel_rfl) (by kernel_rfl) (by kernel_rfl) (fun _ _ _ h=>h) (Or.inl ⟨by kernel_rfl,fun V r0=>by go_simp⟩) ?_
      refine takeC (i:=1) (v:=.pointer (some ⟨Bx,0,none⟩)) rfl (by kernel_rfl) (by kernel_rfl) (by kernel_rfl) (by kernel_rfl) (by kernel_rfl) (fun _ _ _ h=>h) (Or.inl ⟨by kernel_rfl,fun V r0=>by go_simp⟩) ?_
      refine takeC (i:=2) (v:=.int .i64 y0) rfl (by kernel_rfl) (by kernel_rfl) (by kernel_rfl) (by kernel_rfl) (by kernel_rfl) (fun _ _ _ h=>h) (Or.inl ⟨by kernel_rfl,fun V r0=>by go_simp⟩) ?_
      refine takeC (i:=3) (v:=.bool true) rfl (by kernel_rfl) (by kernel_rfl) (by kernel_rfl) (by kernel_rfl) (by kernel_rfl) (fun _ _ _ h=>h) (Or.inl ⟨by kernel_rfl,fun V r0=>by go_simp⟩) ?_
      refine takeC (i:=4) (v:=.pointer (some ⟨w.heap.size+1+1+1,2,none⟩)) rfl (by kernel_rfl) (by kernel_rfl) (by kernel_rfl) (by kernel_rfl) (by kernel_rfl) (fun _ _ _ h=>h) (Or.inl ⟨by kernel_rfl,fun V r0=>by go_simp⟩) ?_
      refine consC (i:=5) (by kernel_rfl) (by kernel_rfl) Q0 rfl (fun K' hK=>?_)
      go_wp2_with fail
      refine takeC (i:=6) (v:=.pointer (some ⟨w.heap.size+1+1+1,3,none⟩)) rfl (by kernel_rfl) (by kernel_rfl) (by kernel_rfl) (by kernel_rfl) (by kernel_rfl) (fun _ _ _ h=>h) (Or.inl ⟨by kernel_rfl,fun V r0=>by go_simp⟩) ?_
      refine lastC (by kernel_rfl) (by kernel_rfl) q5 (of_decide_eq_true (by kernel_rfl)) ?_
      refine any_seqI [7] [_] _ _ _ rfl (by kernel_rfl) ?_
      go_wp2_with fail
      gi_wp2
      exact HF.out
     ·have e4:(y0==4)=false:=beq_eq_false_iff_ne.2 hk
      have H4:Hid (¬ y0=4):=hk
      clear hk
      by_cases hk:y0=5
      ·have e5:(y0==5)=true:=by rw [hk];rfl
       have HN:Hid ((y0=4∨y0=5)∧decide (y0=4)=false):=⟨Or.inr hk,by rw [hk];rfl⟩
       clear hk
       have l2:=hS2.bl.cell 2 _ rfl
       have m2:=hS2.bl.frozen 2
       have l3:(W.setCell ⟨w.heap.size+1+1+1,2,none⟩ (.int .i64 (i:Int))).cell? ⟨w.heap.size+1+1+1,3,none⟩=some (.bool x2.2.2.2):=(SBox.set (w:=W) hS2.bl 2 _).cell 3 _ rfl
       have l3':W.cell? ⟨w.heap.size+1+1+1,3,none⟩=some (.bool x2.2.2.2):=hS2.bl.cell 3 _ rfl
       have m3:=hS2.bl.frozen 3
       have q5:(W.drew.setCell ⟨w.heap.size+1+1+1,2,none⟩ (.int .i64 (i:Int))).cell? ⟨Bx,0,none⟩=some (.int .i64 y0):=(SBox.other (w:=W.drew) hB2 _ _ _ (by omega)).cell 0 _ rfl
       have HF:Hid (KeepsFrom W0.heap.size W ((W.drew.setCell ⟨w.heap.size+1+1+1,2,none⟩ (.int .i64 (i:Int))).setCell ⟨w.heap.size+1+1+1,3,none⟩ (.bool false))∧DOut w t (.slice a h.length cap) h (.exit 0) (pre++[x]) ((W.drew.setCell ⟨w.heap.size+1+1+1,2,none⟩ (.int .i64 (i:Int))).setCell ⟨w.heap.size+1+1+1,3,none⟩ (.bool false))) :=
        ⟨(((KK.trans (KeepsOthers.drew _)).trans (KeepsOthers.setCell _ _ _)).trans (KeepsOthers.setCell _ _ _)).from _,rfl,_,_,DSt.fin (W:=W.drew) ⟨hS2.below.drew,hS2.size,hS2.bh,hS2.bt,hS2.br,hS2.bl,hS2.bo,hS2.be⟩ i false,fun hpre=>by
          obtain ⟨hp1,hp2,hp3⟩:=fin_prefix hpre
          have ei:=HI.out
          have ek:=EK.out hp2 hp3
          have hk:=HN.out
          have hf:=hp hp1
          obtain rfl:i=pre.length:=by omega
          exact by
           rw [fd_end_old hf hp3 (by rw [ek];exact D1.out) (by rw [ek];exact hk.1),ek,hk.2,XE.out]⟩
       clear hS hS2 hp HY HI EK HN KK BB D1 XE
       gi_wp2
       refine regionIn_any (by kernel_rfl) (fun ⟨_,_,h⟩=>h) (by kernel_rfl) ?_
       refine any_of_C (C:=fun V=>V.cell? ⟨Bx,0,none⟩=some (.int .i64 y0)) 7 _ _ _ _ ?_
       refine takeC (i:=0) (v:=.int .i64 (i:Int)) rfl (by kernel_rfl) (by kernel_rfl) (by kernel_rfl) (by kernel_rfl) (by kernel_rfl) (fun _ _ _ h=>h) (Or.inl ⟨by kernel_rfl,fun V r0=>by go_simp⟩) ?_
       refine takeC (i:=1) (v:=.pointer (some ⟨Bx,0,none⟩)) rfl (by kernel_rfl) (by kernel_rfl) (by kernel_rfl) (by kernel_rfl) (by kernel_rfl) (fun _ _ _ h=>h) (Or.inl ⟨by kernel_rfl,fun V r0=>by go_simp⟩) ?_
       refine takeC (i:=2) (v:=.int .i64 y0) rfl (by kernel_rfl) (by kernel_rfl) (by kernel_rfl) (by kernel_rfl) (by kernel_rfl) (fun _ _ _ h=>h) (Or.inl ⟨by kernel_rfl,fun V r0=>by go_simp⟩) ?_
       refine takeC (i:=3) (v:=.bool false) rfl (by kernel_rfl) (by kernel_rfl) (by kernel_rfl) (by kernel_rfl) (by kernel_rfl) (fun _ _ _ h=>h) (Or.inl ⟨by kernel_rfl,fun V r0=>by go_simp⟩) ?_
       refine takeC (i:=4) (v:=.pointer (some ⟨w.heap.size+1+1+1,2,none⟩)) rfl (by kernel_rfl) (by kernel_rfl) (by kernel_rfl) (by kernel_rfl) (by kernel_rfl) (fun _ _ _ h=>h) (Or.inl ⟨by kernel_rfl,fun V r0=>by go_simp⟩) ?_
       refine consC (i:=5) (by kernel_rfl) (by kernel_rfl) Q0 rfl (fun K' hK=>?_)
       go_wp2_with fail
       refine takeC (i:=6) (v:=.pointer (some ⟨w.heap.size+1+1+1,3,none⟩)) rfl (by kernel_rfl) (by kernel_rfl) (by kernel_rfl) (by kernel_rfl) (by kernel_rfl) (fun _ _ _ h=>h) (Or.inl ⟨by kernel_rfl,fun V r0=>by go_simp⟩) ?_
       refine lastC (by kernel_rfl) (by kernel_rfl) q5 (of_decide_eq_true (by kernel_rfl)) ?_
       refine any_seqI [7] [_] _ _ _ rfl (by kernel_rfl) ?_
       go_wp2_with fail
       gi_wp2
       exact HF.out
      ·have e5:(y0==5)=false:=beq_eq_false_iff_ne.2 hk
       have HN:Hid (¬ (y0=4∨y0=5)):=fun hh=>hh.elim H4.out hk
       clear hk
       have HF:Hid (KeepsFrom W0.heap.size W W∧KpE w.heap.size (w.heap.size+1+1+1+1+1) W W∧DInv w t (.slice a h.length cap) h (pre++[x]) W) :=
        ⟨KK.from _,BB,_,_,hS2,fun hpre=>by
         obtain ⟨hp1,hp2,hp3⟩:=fin_prefix hpre
         have ei:=HI.out
         have ek:=EK.out hp2 hp3
         have hf:=hp hp1
         obtain rfl:i=pre.length:=by omega
         rw [List.length_append,List.length_singleton]
         exact fd_old (by rw [XE.out];exact hf) (by rw [ek];exact HN.out)⟩
       clear hS hS2 hp HY HI EK HN KK BB D1 XE H4
       gi_wp2
       exact HF.out
  ·have e1:(y1 != t)=true:=by rw [bne_iff_ne];exact d1
   have D1:Hid (¬ y1=t):=d1
   have HF:Hid (KeepsFrom W0.heap.size W W∧KpE w.heap.size (w.heap.size+1+1+1+1+1) W W∧DInv w t (.slice a h.length cap) h (pre++[x]) W) :=
    ⟨KeepsFrom.refl _ _,⟨Below.refl _ _,rfl⟩,m,th,hS,fun hpre=>by
     obtain ⟨hp1,hp2,hp3⟩:=fin_prefix hpre
     have ek:=EK.out hp2 hp3
     rw [List.length_append,List.length_singleton]
     exact fd_skip (hp hp1) (by rw [ek];exact D1.out)⟩
   clear hS hp HY HI EK D1 d1
   gi_wp2
   exact HF.out
 case done =>
  rintro D ys W hD rfl ⟨m,th,hS,hp⟩ hK
  have hf:=hp (List.prefix_refl _)
  rw [List.length_finRange] at hf
  have HE:Hid (findP h t=(m,th)):=fd_done hf
  have HD:Hid (w.heap.size+1+1+1+1+1+1≤D):=by rw [sW0] at hD;exact hD
  clear sW0 hS0 hD hp hf
  have HB:=Lib.hid hS.below
  have R0:=hS.br
  have l0:=hS.bl.cell 0 _ rfl
  have l1:=hS.bl.cell 1 _ rfl
  have l2:=hS.bl.cell 2 _ rfl
  have l3:=hS.bl.cell 3 _ rfl
  have o0:=hS.bo.cell
  have r0:=R0.cell 0 _ rfl
  have r1:=R0.cell 1 _ rfl
  have r2:=R0.cell 2 _ rfl
  have r3:=R0.cell 3 _ rfl
  have f0:=R0.frozen 0
  have f1:=R0.frozen 1
  have f2:=R0.frozen 2
  have f3:=R0.frozen 3
  gi_wp2
  refine regionW_calm (by kernel_rfl) (by kernel_rfl) ?_
  refine any_of_C (C:=fun V=>V.cell? ⟨w.heap.size+1+1+1,0,none⟩=some (.int .i64 m.1)∧V.cell? ⟨w.heap.size+1+1+1,1,none⟩=some (.int .i64 (m.2.1:Int))∧V.cell? ⟨w.heap.size+1+1+1,2,none⟩=some (.int .i64 (m.2.2.1:Int))∧V.cell? ⟨w.heap.size+1+1+1,3,none⟩=some (.bool m.2.2.2)∧V.cell? ⟨w.heap.size+1+1+1+1,0,none⟩=some (.bool th)) 3 _ _ _ _ ?_
  refine takeC (i:=0) (v:=lifA m) rfl (by kernel_rfl) (by kernel_rfl) (by kernel_rfl) (by kernel_rfl) (by kernel_rfl) (fun _ _ _ h=>h) (Or.inl ⟨by kernel_rfl,fun V hV=>by obtain ⟨r0,r1,r2,r3,r4⟩:=hV;go_simp⟩) ?_
  refine takeC (i:=1) (v:=.bool th) rfl (by kernel_rfl) (by kernel_rfl) (by kernel_rfl) (by kernel_rfl) (by kernel_rfl) (fun _ _ _ h=>h) (Or.inl ⟨by kernel_rfl,fun V hV=>by obtain ⟨r0,r1,r2,r3,r4⟩:=hV;go_simp⟩) ?_
  refine consC (i:=2) (by kernel_rfl) (by kernel_rfl) ⟨l0,l1,l2,l3,o0⟩ rfl (fun K' hK=>?_)
  go_wp2_with fail
  have U1:=SBox.put4_other (w:=W.drew) (k:=w.heap.size+1+1) hS.bl (by omega) (.int .i64 m.1) (.int .i64 (m.2.1:Int)) (.int .i64 (m.2.2.1:Int)) (.bool m.2.2.2)
  have U2:=SBox.put4_other (w:=W.drew) (k:=w.heap.size+1+1) (show SBox W.drew (w.heap.size+1+1+1+1) 4 #[.bool th] from hS.bo) (by omega) (.int .i64 m.1) (.int .i64 (m.2.1:Int)) (.int .i64 (m.2.2.1:Int)) (.bool m.2.2.2)
  refine lastC (by kernel_rfl) (by kernel_rfl) ⟨U1.cell 0 _ rfl,U1.cell 1 _ rfl,U1.cell 2 _ rfl,U1.cell 3 _ rfl,U2.cell 0 _ rfl⟩ (of_decide_eq_true (by kernel_rfl)) ?_
  clear U1 U2
  refine any_seqI [3] [_] _ _ _ rfl (by kernel_rfl) ?_
  go_wp2_with fail
  refine calm_normal ?_
  gi_wp2
  (try rw [Exit.noGoto_ret])
  have hK':=((((KeepsOthers.setCell W.drew ⟨w.heap.size+1+1,0,none⟩ (.int .i64 m.1)).trans (KeepsOthers.setCell _ ⟨w.heap.size+1+1,1,none⟩ (.int .i64 (m.2.1:Int)))).trans (KeepsOthers.setCell _ ⟨w.heap.size+1+1,2,none⟩ (.int .i64 (m.2.2.1:Int)))).trans (KeepsOthers.setCell _ ⟨w.heap.size+1+1,3,none⟩ (.bool m.2.2.2))).same D _ hK rfl
  have R2:=SBox.put4 (w:=W.drew) hS.br (.int .i64 m.1) (.int .i64 (m.2.1:Int)) (.int .i64 (m.2.2.1:Int)) (.bool m.2.2.2)
  have B2:=bel_put4 (w:=W.drew) hS.below.drew (g:=w.heap.size+1+1) (by omega) (.int .i64 m.1) (.int .i64 (m.2.1:Int)) (.int .i64 (m.2.2.1:Int)) (.bool m.2.2.2)
  refine ⟨by simp,.inl ⟨_,_,rfl,run_takeDeferred hK',?_⟩⟩
  refine ⟨.tuple #[lifA m,.bool th],results_row_tmp Tryz.results170 _ _ (w.heap.size+1+1) 73 _ (0,0) _ rfl (block_kept R2 (grownBy_putObj' _ D (.deferred none)) (fun r e=>by cases e;exact ⟨_,hK',rfl⟩)) Tryz.underlying73 rfl size_lif,by rw [HE.out],B2.trans (belowK_b (w:=w) (Nat.le_refl _) _ D _ _ (by have:=HD.out;omega) hK' rfl rfl)⟩
 case stop =>
  rintro D c pre W hD hSp ⟨rfl,m,th,hS,hbad⟩ hK
  have HE:Hid (findP h t=(m,th)):=hbad hSp
  have HD:Hid (w.heap.size+1+1+1+1+1+1≤D):=by rw [sW0] at hD;exact hD
  clear sW0 hS0 hD hbad
  have HB:=Lib.hid hS.below
  have R0:=hS.br
  have l0:=hS.bl.cell 0 _ rfl
  have l1:=hS.bl.cell 1 _ rfl
  have l2:=hS.bl.cell 2 _ rfl
  have l3:=hS.bl.cell 3 _ rfl
  have o0:=hS.bo.cell
  have r0:=R0.cell 0 _ rfl
  have r1:=R0.cell 1 _ rfl
  have r2:=R0.cell 2 _ rfl
  have r3:=R0.cell 3 _ rfl
  have f0:=R0.frozen 0
  have f1:=R0.frozen 1
  have f2:=R0.frozen 2
  have f3:=R0.frozen 3
  gi_wp2
  refine regionW_calm (by kernel_rfl) (by kernel_rfl) ?_
  refine any_of_C (C:=fun V=>V.cell? ⟨w.heap.size+1+1+1,0,none⟩=some (.int .i64 m.1)∧V.cell? ⟨w.heap.size+1+1+1,1,none⟩=some (.int .i64 (m.2.1:Int))∧V.cell? ⟨w.heap.size+1+1+1,2,none⟩=some (.int .i64 (m.2.2.1:Int))∧V.cell? ⟨w.heap.size+1+1+1,3,none⟩=some (.bool m.2.2.2)∧V.cell? ⟨w.heap.size+1+1+1+1,0,none⟩=some (.bool th)) 3 _ _ _ _ ?_
  refine takeC (i:=0) (v:=lifA m) rfl (by kernel_rfl) (by kernel_rfl) (by kernel_rfl) (by kernel_rfl) (by kernel_rfl) (fun _ _ _ h=>h) (Or.inl ⟨by kernel_rfl,fun V hV=>by obtain ⟨r0,r1,r2,r3,r4⟩:=hV;go_simp⟩) ?_
  refine takeC (i:=1) (v:=.bool th) rfl (by kernel_rfl) (by kernel_rfl) (by kernel_rfl) (by kernel_rfl) (by kernel_rfl) (fun _ _ _ h=>h) (Or.inl ⟨by kernel_rfl,fun V hV=>by obtain ⟨r0,r1,r2,r3,r4⟩:=hV;go_simp⟩) ?_
  refine consC (i:=2) (by kernel_rfl) (by kernel_rfl) ⟨l0,l1,l2,l3,o0⟩ rfl (fun K' hK=>?_)
  go_wp2_with fail
  have U1:=SBox.put4_other (w:=W.drew) (k:=w.heap.size+1+1) hS.bl (by omega) (.int .i64 m.1) (.int .i64 (m.2.1:Int)) (.int .i64 (m.2.2.1:Int)) (.bool m.2.2.2)
  have U2:=SBox.put4_other (w:=W.drew) (k:=w.heap.size+1+1) (show SBox W.drew (w.heap.size+1+1+1+1) 4 #[.bool th] from hS.bo) (by omega) (.int .i64 m.1) (.int .i64 (m.2.1:Int)) (.int .i64 (m.2.2.1:Int)) (.bool m.2.2.2)
  refine lastC (by kernel_rfl) (by kernel_rfl) ⟨U1.cell 0 _ rfl,U1.cell 1 _ rfl,U1.cell 2 _ rfl,U1.cell 3 _ rfl,U2.cell 0 _ rfl⟩ (of_decide_eq_true (by kernel_rfl)) ?_
  clear U1 U2
  refine any_seqI [3] [_] _ _ _ rfl (by kernel_rfl) ?_
  go_wp2_with fail
  refine calm_normal ?_
  gi_wp2
  (try rw [Exit.noGoto_ret])
  have hK':=((((KeepsOthers.setCell W.drew ⟨w.heap.size+1+1,0,none⟩ (.int .i64 m.1)).trans (KeepsOthers.setCell _ ⟨w.heap.size+1+1,1,none⟩ (.int .i64 (m.2.1:Int)))).trans (KeepsOthers.setCell _ ⟨w.heap.size+1+1,2,none⟩ (.int .i64 (m.2.2.1:Int)))).trans (KeepsOthers.setCell _ ⟨w.heap.size+1+1,3,none⟩ (.bool m.2.2.2))).same D _ hK rfl
  have R2:=SBox.put4 (w:=W.drew) hS.br (.int .i64 m.1) (.int .i64 (m.2.1:Int)) (.int .i64 (m.2.2.1:Int)) (.bool m.2.2.2)
  have B2:=bel_put4 (w:=W.drew) hS.below.drew (g:=w.heap.size+1+1) (by omega) (.int .i64 m.1) (.int .i64 (m.2.1:Int)) (.int .i64 (m.2.2.1:Int)) (.bool m.2.2.2)
  refine ⟨by simp,.inl ⟨_,_,rfl,run_takeDeferred hK',?_⟩⟩
  refine ⟨.tuple #[lifA m,.bool th],results_row_tmp Tryz.results170 _ _ (w.heap.size+1+1) 73 _ (0,0) _ rfl (block_kept R2 (grownBy_putObj' _ D (.deferred none)) (fun r e=>by cases e;exact ⟨_,hK',rfl⟩)) Tryz.underlying73 rfl size_lif,by rw [HE.out],B2.trans (belowK_b (w:=w) (Nat.le_refl _) _ D _ _ (by have:=HD.out;omega) hK' rfl rfl)⟩
end Go.Proofs.YtkkenfhlgpjmjaaGreatDoor
