/-
  What redact.each and redact.All answer. What event.Take answers. What cartoucheref06.Leaves and Back answer. What event.each (of events, of texts), Leaves and B
-/
import Derived.Test.YtkkenfhlgpjmjaaGreatDoorCL1a
import Derived.Test.YtkkenfhlgpjmjaaGreatDoorCR6Take
import Derived.Test.YtkkenfhlgpjmjaaGreatDoorCL0f
import Derived.Lib.Tables
namespace Go.Proofs.YtkkenfhlgpjmjaaGreatDoor
set_option maxRecDepth 100000
open Go.RowKit Go.Shelf
set_option linter.unusedVariables false
attribute [local go_sem] Oper.semAt_some ba_size
structure ESt (N g M:Nat) (w:World) (s:List UInt8) (n:Nat) (sl:Value) (L:List Ev) (W:World):Prop where
 below:Below N w W
 size:M+2≤W.heap.size
 bs:Boxed W N 9 (.string ⟨s.toArray⟩)
 r1:Boxed W (N+1) 22 (.slice none 0 0)
 r2:Boxed W (N+1+1) 36 (.int .i64 0)
 bt:Boxed W M 22 (.slice (some ⟨g,0,none⟩) n n)
 be:Boxed W (M+1) 22 sl
 row:W.ownsRow N 64 4 (.slice (some ⟨g,0,none⟩) n n) n (recV evV L)
 len:L.length=n
theorem ESt.bel {N g M:Nat} {w:World} {s:List UInt8} {n:Nat} {sl:Value} {L:List Ev} {W W':World} (h:ESt N g M w s n sl L W) (hN:N+3≤M) (hg:g < M) (hb:Below (M+2) W W'):ESt N g M w s n sl L W' :=
 ⟨h.below.trans (hb.mono (by omega)),Nat.le_trans h.size hb.size,boxed_bel h.bs hb (by omega),boxed_bel h.r1 hb (by omega),boxed_bel h.r2 hb (by omega),boxed_bel h.bt hb (by omega),boxed_bel h.be hb (by omega),owns_bel h.row hb (by omega),h.len⟩
theorem ESt.put {N g M:Nat} {w:World} {s:List UInt8} {n:Nat} {sl:Value} {L:List Ev} {W:World} (h:ESt N g M w s n sl L W) (hN:g=N+1+1+1) (hg:g < M) (i:Nat) (hi:i < n) (x:Ev):ESt N g M w s n sl (L.set i x) (putE W g i x) :=
 ⟨putE_below h.below g i x (by omega),by rw [putE_size];exact h.size,(putE_other W g i x _ (by omega)).trans h.bs,(putE_other W g i x _ (by omega)).trans h.r1,(putE_other W g i x _ (by omega)).trans h.r2,(putE_other W g i x _ (by omega)).trans h.bt,(putE_other W g i x _ (by omega)).trans h.be,putE_row h.row (by rw [h.len];exact hi) x,by rw [List.length_set];exact h.len⟩
theorem tags_set (kd:List UInt8→List UInt8) (h:List Ev) (k:Nat) (hk:k < h.length) (z:Ev):(tagsL kd (h.take k)++List.replicate (h.length - k) z).set k (tagE kd h[k])=tagsL kd (h.take (k+1))++List.replicate (h.length - (k+1)) z:=by
 have hl:(tagsL kd (h.take k)).length=k:=by rw [tags_len,List.length_take];omega
 rw [List.set_append_right _ _ (by omega),hl,Nat.sub_self,show h.length - k=(h.length - (k+1))+1 by omega,List.replicate_succ,List.set_cons_zero,tagsL_next kd h k hk,List.append_assoc]
 rfl
theorem results_cell2 {fn:Func} {P:Program} {p q:Tmp} {t1 t2:TypeId} (h:fn.results=#[.cell p t1,.cell q t2]) (tmps:Array Value) (w:World) (v:Value)
 (hv:((asAddr (tmps.getD p undef)).run P w).andThen (fun a w₁=>((loadVar t1 a).run P w₁).andThen fun x w₂=>((asAddr (tmps.getD q undef)).run P w₂).andThen fun b w₃=>((loadVar t2 b).run P w₃).andThen fun y w₄=>Result.ok (.tuple #[x,y]) w₄)=Result.ok v w) :
 (results fn tmps).run P w=.ok v w:=by
 rw [← hv]
 simp only [results,h]
 simp [Sem.run_bind,Result.andThen]
def EInv (N g M:Nat) (w:World) (s:List UInt8) (h:List Ev) (sl:Value) (pre:List (Fin h.length)) (W:World):Prop :=
 ∃ L,ESt N g M w s h.length sl L W∧(pre <+: List.finRange h.length→(allMay (h.take pre.length)∧(mayK s∨pre.length=0))∧L=tagsL (keyL s) (h.take pre.length)++List.replicate (h.length - pre.length) EvZ)
def EOut (N M:Nat) (w:World) (s:List UInt8) (h:List Ev) (c:Code) (pre:List (Fin h.length)) (W:World):Prop :=
 c=.ret∧M+2≤W.heap.size∧Below N w W∧Boxed W (N+1) 22 (.slice none 0 0)∧Boxed W (N+1+1) 36 (.int .i64 1)∧(pre <+: List.finRange h.length→∃ (k:Nat) (hk:k < h.length),¬ (mayE h[k]∧mayK s))
set_option maxHeartbeats 2000000 in
theorem peach_any (s:List UInt8) (h:List Ev) (v:Value) (w:World) (hG:G w) (hT:IsEvs w v h) (hn:h.length≤256) :
 Calls Tryz.prog 78 #[.string ⟨s.toArray⟩,v] w fun e w'=>EvRes 64 w (allP s h) e w':=by
 obtain ⟨i0,hi,hz0,hz1,hz2⟩:=info_parts ev_info7
 have hT0:=hT
 obtain ⟨a,cap,rfl,h1,h2,h3,HC⟩:=hT.some_at
 clear HC hT
 have hg3:=hG.size
 refine (callsIn_wide (n:=3)).1 ?_
 refine callsIn_of_wp_marks Tryz.func78 rfl trivial ?_ rfl
 simp only [Tryz.ntmps78,List.size_toArray,List.length_cons,List.length_nil,Nat.reduceAdd,Nat.reduceSub,Array.replicate_succ,Array.replicate_zero,List.push_toArray,List.append_toArray,List.nil_append,List.cons_append]
 gi_wp2_with (first
  | (gi_at_make;refine wpListIn_make_full7 _ rfl _ _ 22 rfl w.heap.size 64 i0 (.agg #[.int .i64 0,.int .i64 0,.string ByteArray.empty,.string ByteArray.empty]) 4 Tryz.underlying22 hi hz0 hz1 .i64 .i64 _ _ h.length rfl rfl rfl rfl (by rw [hz2];omega) (by unfold maxLen;omega) (by simp;omega) ?_;intro w1 hown1 hgr1;refine Hid.out ?_)
  | ((try refine ⟨trivial,?_⟩);gi_at_call 145;refine (callsIn_wide.2 (pevents_any _ _ _ _)).mono ?_;rintro e w2 ⟨rfl,rfl⟩))
 have hg0:(((w.alloc (.cells #[.string ⟨s.toArray⟩] 9)).alloc (.cells #[.slice none 0 0] 22)).alloc (.cells #[.int .i64 0] 36)).heap.size=w.heap.size+1+1+1:=by simp
 rw [hg0] at hown1
 have hrow1:w1.ownsRow w.heap.size 64 4 (.slice (some ⟨w.heap.size+1+1+1,0,none⟩) h.length h.length) h.length (recV evV (List.replicate h.length EvZ)):=by
  have e:=made_evs7 h.length
  have hown1':w1.ownsRow w.heap.size 64 4 (.slice (some ⟨w.heap.size+1+1+1,0,none⟩) h.length h.length) h.length (madeCells #[.int .i64 0,.int .i64 0,.string ByteArray.empty,.string ByteArray.empty] (h.length*4)).toList:=hown1
  rw [e] at hown1'
  exact hown1'
 clear hown1
 have hB1:Below w.heap.size w w1:=((((Below.refl _ w).alloc (Nat.le_refl _) _).alloc (by simp) _).alloc (by simp;omega) _).grown hgr1 (by simp;omega) (fun k e=>by cases e)
 have bs1:Boxed w1 w.heap.size 9 (.string ⟨s.toArray⟩):=(((Boxed.new w 9 (.string ⟨s.toArray⟩)).alloc _).alloc _).kept hgr1 (by simp)
 have r11:Boxed w1 (w.heap.size+1) 22 (.slice none 0 0):=by
  have:=((Boxed.new (w.alloc (.cells #[.string ⟨s.toArray⟩] 9)) 22 (.slice none 0 0)).alloc (.cells #[.int .i64 0] 36)).kept hgr1 (by simp)
  rwa [World.size_alloc] at this
 have r21:Boxed w1 (w.heap.size+1+1) 36 (.int .i64 0):=by
  have:=(Boxed.new ((w.alloc (.cells #[.string ⟨s.toArray⟩] 9)).alloc (.cells #[.slice none 0 0] 22)) 36 (.int .i64 0)).kept hgr1 (by simp)
  rwa [World.size_alloc,World.size_alloc] at this
 have gM:w.heap.size+1+1+1 < w1.heap.size:=(hrow1.lt _ rfl).2
 clear hgr1 hg0
 have hS0:ESt w.heap.size (w.heap.size+1+1+1) w1.heap.size w s h.length (.slice a h.length cap) (List.replicate h.length EvZ) ((w1.alloc (.cells #[.slice (some ⟨w.heap.size+1+1+1,0,none⟩) h.length h.length] 22)).alloc (.cells #[.slice a h.length cap] 22)):=by
  refine ⟨(hB1.alloc (by omega) _).alloc (by simp;omega) _,by simp,(bs1.alloc _).alloc _,(r11.alloc _).alloc _,(r21.alloc _).alloc _,(Boxed.new w1 22 _).alloc _,?_,(hrow1.alloc _).alloc _,by simp⟩
  have:=Boxed.new (w1.alloc (.cells #[.slice (some ⟨w.heap.size+1+1+1,0,none⟩) h.length h.length] 22)) 22 (.slice a h.length cap)
  rwa [World.size_alloc] at this
 refine Lib.hid ?_
 gi_wp2_with ((try refine ⟨trivial,?_⟩);gi_at_call 145;refine (callsIn_wide.2 (pevents_any _ _ _ _)).mono ?_;rintro e w2 ⟨rfl,rfl⟩)
 obtain ⟨W0,hW0⟩:∃ W0,(w1.alloc (.cells #[.slice (some ⟨w.heap.size+1+1+1,0,none⟩) h.length h.length] 22)).alloc (.cells #[.slice a h.length cap] 22)=W0:=⟨_,rfl⟩
 rw [hW0] at hS0 ⊢
 have sW0:W0.heap.size=w1.heap.size+2:=by rw [← hW0];simp
 clear hW0 hrow1 hB1 bs1 r11 r21
 generalize w1.heap.size=M at hS0 gM sW0 ⊢
 refine wpIn_rangeFunc_ownH rfl (by omega) (gf:=217) (lb:=#[.pointer (some ⟨M+1,0,none⟩)]) rfl trivial (enters_of Tryz.func217 (by kernel_rfl) rfl)
  (events_stops h w a cap hT0 (M+1) (3 - 1) W0 hS0.below hS0.be) (fun h k=>kpE_t h k) (kpE_b (by omega) (by omega)) (Below.refl _ _) (fun _=>rfl)
  (EInv w.heap.size (w.heap.size+1+1+1) M w s h (.slice a h.length cap)) (EOut w.heap.size M w s h)
  (ownFrom_of_below (fun _ W ⟨L,h1,_⟩=>by rw [sW0];exact h1.size) (fun _ W W' ⟨L,h1,h2⟩ hb=>⟨L,h1.bel (by omega) gM (by rw [sW0] at hb;exact hb),h2⟩))
  (fun c=>ownFrom_of_below (fun _ W ⟨h1,h2,h3⟩=>by rw [sW0];exact h2) (fun _ W W' ⟨h1,h2,h3,h4,h5,h6⟩ hb=>by
   rw [sW0] at hb
   exact ⟨h1,Nat.le_trans h2 hb.size,h3.trans (hb.mono (by omega)),boxed_bel h4 hb (by omega),boxed_bel h5 hb (by omega),h6⟩))
  ⟨_,hS0,fun _=>⟨⟨fun x hx=>by simp at hx,Or.inr rfl⟩,by simp [tagsL]⟩⟩
  (fun x a' W=>∃ Bx,M+1 < Bx∧SBox W Bx 64 #[.int .i64 h[x.val].1,.int .i64 h[x.val].2.1,.string ⟨h[x.val].2.2.1.toArray⟩,.string ⟨h[x.val].2.2.2.toArray⟩]∧a'={ tmps:=#[.string ⟨s.toArray⟩,.slice a h.length cap,.pointer (some ⟨w.heap.size,0,none⟩),undef,.pointer (some ⟨w.heap.size+1,0,none⟩),.pointer (some ⟨w.heap.size+1+1,0,none⟩),.pointer (some ⟨M,0,none⟩),.int .i64 (x.val:Int),.pointer (some ⟨Bx,0,none⟩),undef,undef,.slice a h.length cap,.int .i64 h.length,.slice (some ⟨w.heap.size+1+1+1,0,none⟩) h.length h.length,.slice a h.length cap,eventsF (M+1),.int .i64 (x.val:Int),evW h[x.val],undef,undef,undef,undef,undef,undef,undef,undef,undef,undef,undef,undef,undef,undef],defers:=[] })
  (fun x a' _ A B row hs hg hr=>by
   obtain ⟨Bx,h1,h2,h4⟩:=hs
   exact ⟨Bx,h1,block_kept h2 hg (fun r e=>(hr r e).2),h4⟩)
  ?assign ?body ?done ?stop
 case assign =>
  rintro l pre x W K ⟨L,hS,hp⟩ hK
  have hsz:=hS.size
  gi_wp2
  refine hK _ _ ((KeepsOthers.alloc _ _).from _) ⟨(Below.refl _ W).alloc (by omega) _,Below.heap_alloc W _ _ (by omega)⟩ ⟨L,hS.bel (by omega) gM ((Below.refl _ W).alloc hsz _),hp⟩ ⟨W.heap.size,by omega,SBox.new W _ _,rfl⟩
 case body =>
  rintro l pre x a' W hl hrec ⟨L,hS,hp⟩ ⟨Bx,hBx,hblk,rfl⟩ hlt
  have HW0:Hid (W0.heap.size=M+2):=sW0
  clear sW0 hS0 hl hrec
  have hsz:=hS.size
  have hxn:=x.isLt
  have hGW:G W:=hG.below hS.below hg3
  obtain ⟨⟨y0,y1,y2,y3⟩,hy⟩:∃ y,h[x.val]=y:=⟨_,rfl⟩
  have HY:Hid (h[x.val]=(y0,y1,y2,y3)):=hy
  rw [hy] at hblk ⊢
  simp only at hblk
  clear hy
  have c0:=hS.bs.cell
  have q0:=hblk.cell 0 _ rfl
  have q1:=hblk.cell 1 _ rfl
  have q2:=hblk.cell 2 _ rfl
  have q3:=hblk.cell 3 _ rfl
  have C:=pone_any s y0 y1 y2 y3 W hGW
  obtain ⟨i,hxi⟩:∃ i,x.val=i:=⟨_,rfl⟩
  have HI:Hid (x.val=i):=hxi
  rw [hxi] at hxn ⊢
  clear hxi
  by_cases hm:mayE (y0,y1,y2,y3)∧mayK s
  ·rw [oneP_ok s _ hm.1 hm.2] at C
   have HM:Hid (mayE (y0,y1,y2,y3)∧mayK s):=hm
   obtain ⟨⟨z0,z1,z2,z3⟩,hz⟩:∃ z,tagE (keyL s) (y0,y1,y2,y3)=z:=⟨_,rfl⟩
   have HZ:Hid (tagE (keyL s) (y0,y1,y2,y3)=(z0,z1,z2,z3)):=hz
   rw [hz] at C
   simp only at C
   clear hz hm
   gi_wp2_with ((try refine ⟨trivial,?_⟩);gi_at_call 146;refine (CallsIn.inRound l (callsIn_wide.2 C)).mono ?_;clear C;rintro e W1 ⟨rfl,b1⟩;refine Hid.out ?_)
   have s1:=b1.size
   have hB2:Below (M+2) W (W1.alloc (.cells #[.int .i64 z0,.int .i64 z1,.string ⟨z2.toArray⟩,.string ⟨z3.toArray⟩] 64)):=(b1.mono hsz).alloc (by omega) _
   have hS2:=hS.bel (by omega) gM hB2
   have K2:KeepsOthers W (W1.alloc (.cells #[.int .i64 z0,.int .i64 z1,.string ⟨z2.toArray⟩,.string ⟨z3.toArray⟩] 64)):=(keeps_of_below b1).trans (KeepsOthers.alloc _ _)
   have c6:=hS2.bt.cell
   obtain ⟨u,⟨f0,f1,f2,f3⟩,g0,g1,g2,g3⟩:=row_cells7 hS2.row hS2.len hxn
   have HF:Hid (KeepsFrom W0.heap.size W (putE (W1.alloc (.cells #[.int .i64 z0,.int .i64 z1,.string ⟨z2.toArray⟩,.string ⟨z3.toArray⟩] 64)) (w.heap.size+1+1+1) i (z0,z1,z2,z3))∧KpE w.heap.size (M+1) W (putE (W1.alloc (.cells #[.int .i64 z0,.int .i64 z1,.string ⟨z2.toArray⟩,.string ⟨z3.toArray⟩] 64)) (w.heap.size+1+1+1) i (z0,z1,z2,z3))∧EInv w.heap.size (w.heap.size+1+1+1) M w s h (.slice a h.length cap) (pre++[x]) (putE (W1.alloc (.cells #[.int .i64 z0,.int .i64 z1,.string ⟨z2.toArray⟩,.string ⟨z3.toArray⟩] 64)) (w.heap.size+1+1+1) i (z0,z1,z2,z3))):=by
    refine ⟨(K2.trans (putE_keeps _ _ _ _)).from _,⟨putE_below (hB2.mono (by omega)) _ _ _ (by omega),?_⟩,L.set i (z0,z1,z2,z3),hS2.put rfl gM i hxn _,fun hpre=>?_⟩
    ·rw [putE_other _ _ _ _ _ (by omega)];exact hB2.block _ (by omega)
    ·obtain ⟨hp1,hp2,hp3⟩:=fin_prefix hpre
     obtain ⟨⟨ha,hk⟩,hL⟩:=hp hp1
     have ei:i=pre.length:=HI.out.symm.trans hp2
     have ek:h[pre.length]=(y0,y1,y2,y3):=by
      have:=HY.out
      simp only [hp2] at this
      exact this
     rw [List.length_append,List.length_singleton]
     refine ⟨⟨allMay_next h pre.length hp3 ha (by rw [ek];exact HM.out.1),Or.inl HM.out.2⟩,?_⟩
     rw [hL,ei,← HZ.out,← ek]
     exact tags_set (keyL s) h pre.length hp3 EvZ
   clear hS hS2 K2 hp HZ HM HY HI
   refine Lib.hid ?_
   gi_wp2
   exact HF.out
  ·rw [oneP_no s _ hm] at C
   simp only at C
   have HM:Hid (¬ (mayE h[x.val]∧mayK s)):=by show ¬ _;rw [HY.out];exact hm
   clear hm
   gi_wp2_with ((try refine ⟨trivial,?_⟩);gi_at_call 146;refine (CallsIn.inRound l (callsIn_wide.2 C)).mono ?_;clear C;rintro e W1 ⟨rfl,b1⟩;refine Hid.out ?_)
   have s1:=b1.size
   have hB2:Below (M+2) W (W1.alloc (.cells #[.int .i64 0,.int .i64 0,.string ⟨#[]⟩,.string ⟨#[]⟩] 64)):=(b1.mono hsz).alloc (by omega) _
   have hS2:=hS.bel (by omega) gM hB2
   have K2:KeepsOthers W (W1.alloc (.cells #[.int .i64 0,.int .i64 0,.string ⟨#[]⟩,.string ⟨#[]⟩] 64)):=(keeps_of_below b1).trans (KeepsOthers.alloc _ _)
   have f1:=hS2.r1.cell
   have g1:=hS2.r1.frozen
   have f2:=hS2.r2.cell
   have g2:=hS2.r2.frozen
   have HF:Hid (KeepsFrom W0.heap.size W (((W1.alloc (.cells #[.int .i64 0,.int .i64 0,.string ⟨#[]⟩,.string ⟨#[]⟩] 64)).setCell ⟨w.heap.size+1,0,none⟩ (.slice none 0 0)).setCell ⟨w.heap.size+1+1,0,none⟩ (.int .i64 1))∧EOut w.heap.size M w s h .ret (pre++[x]) (((W1.alloc (.cells #[.int .i64 0,.int .i64 0,.string ⟨#[]⟩,.string ⟨#[]⟩] 64)).setCell ⟨w.heap.size+1,0,none⟩ (.slice none 0 0)).setCell ⟨w.heap.size+1+1,0,none⟩ (.int .i64 1))):=by
    refine ⟨((K2.trans (KeepsOthers.setCell _ _ _)).trans (KeepsOthers.setCell _ _ _)).from _,rfl,by simp;omega,(hS2.below.setCell (p:=⟨w.heap.size+1,0,none⟩) (by simp) _).setCell (p:=⟨w.heap.size+1+1,0,none⟩) (by simp;omega) _,(hS2.r1.set _).other (by omega) _,(hS2.r2.other (by omega) _).set _,fun _=>⟨x.val,x.isLt,HM.out⟩⟩
   clear hS hS2 K2 hp HY HI
   refine Lib.hid ?_
   gi_wp2
   exact HF.out
 case done =>
  rintro D ys W hD rfl ⟨L,hS,hp⟩ hK
  obtain ⟨⟨ha,hk⟩,hL⟩:=hp (List.prefix_refl _)
  rw [List.length_finRange] at ha hk hL
  rw [List.take_of_length_le (Nat.le_refl _)] at ha hL
  rw [Nat.sub_self,List.replicate_zero,List.append_nil] at hL
  have HE:Hid (allP s h=(tagsL (keyL s) h,0)):=allP_ok s h (by omega) ha (hk.imp id (fun e=>List.length_eq_zero_iff.1 e))
  have hrow:=hS.row
  rw [hL] at hrow
  have HT:Hid ((tagsL (keyL s) h).length=h.length):=tags_len _ _
  have c6:=hS.bt.cell
  have f1:=hS.r1.cell
  have g1:=hS.r1.frozen
  have f2:=hS.r2.cell
  have g2:=hS.r2.frozen
  have hsz:=hS.size
  have HD:Hid (M+2≤D):=by rw [sW0] at hD;exact hD
  clear sW0 hS0 hD hp ha hk hL
  gi_wp2
  have hK':=((KeepsOthers.setCell W ⟨w.heap.size+1,0,none⟩ (.slice (some ⟨w.heap.size+1+1+1,0,none⟩) h.length h.length)).trans (KeepsOthers.setCell _ ⟨w.heap.size+1+1,0,none⟩ (.int .i64 0))).same D _ hK rfl
  have B1:=(hS.below.setCell (p:=⟨w.heap.size+1,0,none⟩) (by simp) (.slice (some ⟨w.heap.size+1+1+1,0,none⟩) h.length h.length)).setCell (p:=⟨w.heap.size+1+1,0,none⟩) (by simp;omega) (.int .i64 0)
  have R1:=(hS.r1.set (.slice (some ⟨w.heap.size+1+1+1,0,none⟩) h.length h.length)).other (B':=w.heap.size+1+1) (by omega) (.int .i64 0)
  have R2:=(hS.r2.other (B':=w.heap.size+1) (by omega) (.slice (some ⟨w.heap.size+1+1+1,0,none⟩) h.length h.length)).set (.int .i64 0)
  have O1:=owns_keep7 (g:=w.heap.size+1+1) (j:=0) (owns_keep7 (g:=w.heap.size+1) (j:=0) hrow (.slice (some ⟨w.heap.size+1+1+1,0,none⟩) h.length h.length) (by simp [Value.ownBlock])) (.int .i64 0) (by simp [Value.ownBlock])
  refine ⟨by simp,.inl ⟨_,_,rfl,run_takeDeferred hK',?_⟩⟩
  have d1:=cell_kept R1.cell (grownBy_putObj' _ D (.deferred none)) (fun r e=>by cases e;exact ⟨_,hK',rfl⟩)
  have d2:=cell_kept R2.cell (grownBy_putObj' _ D (.deferred none)) (fun r e=>by cases e;exact ⟨_,hK',rfl⟩)
  refine ⟨.tuple #[.slice (some ⟨w.heap.size+1+1+1,0,none⟩) h.length h.length,.int .i64 0],?_,_,by rw [HE.out];rfl,B1.trans (belowK_b (w:=w) (Nat.le_refl _) _ D _ _ (by have:=HD.out;omega) hK' rfl rfl),?_⟩
  ·refine results_cell2 rfl _ _ _ ?_
   simp [go_sem,d1,d2]
  ·rw [HE.out]
   show World.ownsRow _ _ _ _ _ (tagsL (keyL s) h).length _
   rw [HT.out]
   exact ownsRow_putObj O1 _ hK' rfl
 case stop =>
  rintro D c pre W hD hSp ⟨rfl,hs,hb,hr1,hr2,hbad⟩ hK
  obtain ⟨k,hk,hm⟩:=hbad hSp
  have HE:Hid (allP s h=([],1)):=allP_bad s h (by omega) k hk hm
  have HD:Hid (M+2≤D):=by rw [sW0] at hD;exact hD
  clear sW0 hS0 hD hm hbad
  gi_wp2
  refine ⟨by simp,.inl ⟨_,_,rfl,run_takeDeferred hK,?_⟩⟩
  have d1:=cell_kept hr1.cell (grownBy_putObj' _ D (.deferred none)) (fun r e=>by cases e;exact ⟨_,hK,rfl⟩)
  have d2:=cell_kept hr2.cell (grownBy_putObj' _ D (.deferred none)) (fun r e=>by cases e;exact ⟨_,hK,rfl⟩)
  refine ⟨.tuple #[.slice none 0 0,.int .i64 1],?_,_,by rw [HE.out];rfl,hb.trans (belowK_b (w:=w) (Nat.le_refl _) _ D _ _ (by have:=HD.out;omega) hK rfl rfl),?_⟩
  ·refine results_cell2 rfl _ _ _ ?_
   simp [go_sem,d1,d2]
  ·rw [HE.out]
   exact World.ownsRow_nil _ _ _ _
theorem pall7_any (s:List UInt8) (h:List Ev) (v:Value) (w:World) (hG:G w) (hT:IsEvs w v h) :
 Calls Tryz.prog 31 #[.string ⟨s.toArray⟩,v] w fun e w'=>EvRes 64 w (allP s h) e w':=by
 have hT0:=hT
 obtain ⟨a,cap,rfl,h1,h2,h3,HC⟩:=hT.some_at
 clear HC hT
 by_cases hbig:256 < h.length
 ·rw [allP_big s h hbig]
  have j:(256:Int) < (h.length:Int):=by omega
  go_enter Tryz.func31,Tryz.ntmps31
  go_wp2_with fail
  go_ret2
  exact ⟨_,rfl,Below.refl _ _,World.ownsRow_nil _ _ _ _⟩
 ·have j:¬ (256:Int) < (h.length:Int):=by omega
  have C:=peach_any s h _ w hG hT0 (by omega)
  obtain ⟨R,hR⟩:∃ R,allP s h=R:=⟨_,rfl⟩
  rw [hR] at C ⊢
  clear hR
  go_enter Tryz.func31,Tryz.ntmps31
  go_wp2_with fail
  refine C.mono ?_
  rintro e w1 ⟨r,rfl,hb1,hown⟩
  go_wp2_with fail
  go_ret2
  exact ⟨r,rfl,hb1,hown⟩
end Go.Proofs.YtkkenfhlgpjmjaaGreatDoor
namespace Go.Proofs.YtkkenfhlgpjmjaaGreatDoor
set_option maxRecDepth 100000
open Go.RowKit
set_option linter.unusedVariables false
attribute [local go_sem] ba_size ba_append ba_get ba_extract take_drop_end
theorem takeER_bad {s:List UInt8} (h:takeE s=none):takeER s=((0,0,[],[]),3):=by unfold takeER;rw [h]
theorem takeER_ok {s:List UInt8} {x:Ev} (h:takeE s=some x):takeER s=(x,0):=by unfold takeER;rw [h]
set_option maxHeartbeats 4000000 in
theorem ptake6_any (s:List UInt8) (hs:s.length≤9223372036854770000) (w:World) :
 Calls Tryz.prog 236 #[.string ⟨s.toArray⟩] w fun e w'=>e=.returned (.tuple #[evA (takeER s).1,.int .i64 ((takeER s).2:Int)])∧Below w.heap.size w w':=by
 have al:∀ o,Below w.heap.size w (w.alloc o):=fun o=>(Below.refl _ w).alloc (Nat.le_refl _) o
 have R0:=SBox.new w 64 #[.int .i64 0,.int .i64 0,.string ⟨#[]⟩,.string ⟨#[]⟩]
 have B0:=al (.cells #[.int .i64 0,.int .i64 0,.string ⟨#[]⟩,.string ⟨#[]⟩] 64)
 match s,hs with
 | [],_ =>
   go_enter Tryz.func236,Tryz.ntmps236
   go_wp2_with fail
   refine bodyPost_ret (v:=.tuple #[evA (0,0,[],[]),.int .i64 3]) (results_row_tmp Tryz.results236 _ _ w.heap.size 64 _ (0,0) _ rfl R0 Tryz.underlying64 rfl size_ev) rfl ⟨rfl,B0⟩
 | [x],_ =>
   go_enter Tryz.func236,Tryz.ntmps236
   go_wp2_with fail
   refine bodyPost_ret (v:=.tuple #[evA (0,0,[],[]),.int .i64 3]) (results_row_tmp Tryz.results236 _ _ w.heap.size 64 _ (0,0) _ rfl R0 Tryz.underlying64 rfl size_ev) rfl ⟨rfl,B0⟩
 | a::b::r,hs =>
   obtain ⟨S,hS⟩:∃ S,a::b::r=S:=⟨_,rfl⟩
   have HS:Hid (a::b::r=S):=hS
   have l2:S.length=r.length+2:=by rw [← hS];rfl
   have l0:0 < S.length:=by omega
   have l1:1 < S.length:=by omega
   have g0:S[0]=a:=by simp only [← hS];rfl
   have g1:S[1]=b:=by simp only [← hS];rfl
   have hd:S.drop 2=r:=by rw [← hS];rfl
   have b0:=i64_byte a
   have b1:=i64_byte b
   have L2:¬ (S.length:Int) < 2:=by omega
   have L1:¬ (S.length:Int)≤1:=by omega
   have L0:¬ (S.length:Int)≤0:=by omega
   have L3:2≤S.length:=by omega
   have ht2:r.take (S.length - 2)=r:=List.take_of_length_le (by omega)
   have hT:=takeE_two a b r
   rw [hS] at hT
   rw [hS] at hs ⊢
   have rb:r.length≤9223372036854770000:=by omega
   clear hS
   have E1:=al (.cells #[.int .i64 0,.int .i64 0,.string ⟨#[]⟩,.string ⟨#[]⟩] 64)
   have R1:SBox ((w.alloc (.cells #[.int .i64 0,.int .i64 0,.string ⟨#[]⟩,.string ⟨#[]⟩] 64)).alloc (.cells #[.int .i64 (a.toNat:Int),.int .i64 (b.toNat:Int),.string ⟨#[]⟩,.string ⟨#[]⟩] 64)).drew w.heap.size 64 #[.int .i64 0,.int .i64 0,.string ⟨#[]⟩,.string ⟨#[]⟩]:=(R0.alloc _).drew
   have X1:SBox ((w.alloc (.cells #[.int .i64 0,.int .i64 0,.string ⟨#[]⟩,.string ⟨#[]⟩] 64)).alloc (.cells #[.int .i64 (a.toNat:Int),.int .i64 (b.toNat:Int),.string ⟨#[]⟩,.string ⟨#[]⟩] 64)).drew (w.heap.size+1) 64 #[.int .i64 (a.toNat:Int),.int .i64 (b.toNat:Int),.string ⟨#[]⟩,.string ⟨#[]⟩]:=by
    have:=SBox.new (w.alloc (.cells #[.int .i64 0,.int .i64 0,.string ⟨#[]⟩,.string ⟨#[]⟩] 64)) 64 #[.int .i64 (a.toNat:Int),.int .i64 (b.toNat:Int),.string ⟨#[]⟩,.string ⟨#[]⟩]
    rw [show (w.alloc (.cells #[.int .i64 0,.int .i64 0,.string ⟨#[]⟩,.string ⟨#[]⟩] 64)).heap.size=w.heap.size+1 by simp] at this
    exact this.drew
   have BW:Below w.heap.size w ((w.alloc (.cells #[.int .i64 0,.int .i64 0,.string ⟨#[]⟩,.string ⟨#[]⟩] 64)).alloc (.cells #[.int .i64 (a.toNat:Int),.int .i64 (b.toNat:Int),.string ⟨#[]⟩,.string ⟨#[]⟩] 64)).drew:=(E1.alloc E1.size _).drew
   have x0:=X1.cell 0 _ rfl
   by_cases hk:keyedE (a.toNat:Int)
   ·rw [if_pos hk] at hT
    have bd:=takeTextL_bd r 32
    have hTT:=fun W=>takeText_any r 32 W (by omega)
    have hTU:=fun W=>takeText_any (Lm.takeTextL r 32).2.1 32 W (by omega)
    obtain ⟨⟨key,x,e1⟩,hx⟩:∃ y,Lm.takeTextL r 32=y:=⟨_,rfl⟩
    rw [hx] at hTT hTU hT
    simp only at hTT hTU hT
    obtain ⟨⟨val,y,e2⟩,hy⟩:∃ z,Lm.takeTextL x 32=z:=⟨_,rfl⟩
    rw [hy] at hTU hT
    simp only at hTU hT
    have HT1:Hid (∀ W,Calls Tryz.prog 176 #[.string ⟨r.toArray⟩,.int .i64 32] W fun e w'=>e=.returned (.tuple #[.string ⟨key.toArray⟩,.string ⟨x.toArray⟩,.int .i64 (e1:Int)])∧Below W.heap.size W w'):=hTT
    have HT2:Hid (∀ W,Calls Tryz.prog 176 #[.string ⟨x.toArray⟩,.int .i64 32] W fun e w'=>e=.returned (.tuple #[.string ⟨val.toArray⟩,.string ⟨y.toArray⟩,.int .i64 (e2:Int)])∧Below W.heap.size W w'):=hTU
    have hT3:=fun W=>ptexts_key (a.toNat:Int) hk W
    obtain ⟨m,hm0⟩:∃ m:Int,(if (a.toNat:Int)=2 then 0 else 1:Int)=m:=⟨_,rfl⟩
    rw [hm0] at hT3
    have T:Hid (∀ W,Calls Tryz.prog 149 #[.int .i64 (a.toNat:Int)] W fun e w'=>e=.returned (.tuple #[.bool true,.int .i64 m])∧Below W.heap.size W w'):=hT3
    clear hTT hTU hT3 hm0 hx hy bd hk l2
    by_cases h1:e1=0
    ·subst h1
     rw [if_neg (by simp)] at hT
     by_cases h2:e2=0
     ·subst h2
      cases y with
      | nil =>
        rw [if_neg (by simp)] at hT
        have M:Hid (∀ W,Calls Tryz.prog 123 #[.agg #[.int .i64 (a.toNat:Int),.int .i64 (b.toNat:Int),.string ⟨key.toArray⟩,.string ⟨val.toArray⟩]] W fun e w'=>e=.returned (.bool (decide (mayE ((a.toNat:Int),(b.toNat:Int),key,val))))∧Below W.heap.size W w'):=fun W=>pmay_any _ _ key val W
        by_cases hm:mayE ((a.toNat:Int),(b.toNat:Int),key,val)
        ·rw [if_pos hm] at hT
         rw [decide_eq_true hm] at M
         rw [takeER_ok hT]
         clear hT hm
         go_enter Tryz.func236,Tryz.ntmps236
         go_wp2_with fail
         refine wp_region_any (by kernel_rfl) ?_
         change wpAny _ _ _ _ _ _ _ (World.drew _)
         refine wpAny_take (i:=0) (v:=(.string ⟨S.toArray⟩)) rfl (by kernel_rfl) (by kernel_rfl) (by kernel_rfl) (fun _ _ _ h=>h) (Or.inl ⟨by kernel_rfl,fun w=>by go_simp⟩) ?_
         refine wpAny_take (i:=1) (v:=(.int .u8 (a.toNat:Int))) rfl (by kernel_rfl) (by kernel_rfl) (by kernel_rfl) (fun _ _ _ h=>h) (Or.inl ⟨by kernel_rfl,fun w=>by go_simp⟩) ?_
         refine wpAny_take (i:=2) (v:=(.int .i64 (a.toNat:Int))) rfl (by kernel_rfl) (by kernel_rfl) (by kernel_rfl) (fun _ _ _ h=>h) (Or.inl ⟨by kernel_rfl,fun w=>by go_simp⟩) ?_
         refine wpAny_take (i:=3) (v:=(.string ⟨S.toArray⟩)) rfl (by kernel_rfl) (by kernel_rfl) (by kernel_rfl) (fun _ _ _ h=>h) (Or.inl ⟨by kernel_rfl,fun w=>by go_simp⟩) ?_
         refine wpAny_take (i:=4) (v:=(.int .u8 (b.toNat:Int))) rfl (by kernel_rfl) (by kernel_rfl) (by kernel_rfl) (fun _ _ _ h=>h) (Or.inl ⟨by kernel_rfl,fun w=>by go_simp⟩) ?_
         refine wpAny_take (i:=5) (v:=(.int .i64 (b.toNat:Int))) rfl (by kernel_rfl) (by kernel_rfl) (by kernel_rfl) (fun _ _ _ h=>h) (Or.inl ⟨by kernel_rfl,fun w=>by go_simp⟩) ?_
         refine wpAny_take (i:=6) (v:=(.agg #[.int .i64 (a.toNat:Int),.int .i64 (b.toNat:Int),.string ⟨#[]⟩,.string ⟨#[]⟩])) rfl (by kernel_rfl) (by kernel_rfl) (by kernel_rfl) (fun _ _ _ h=>h) (Or.inl ⟨by kernel_rfl,fun w=>by go_simp⟩) ?_
         refine wpAny_take (i:=7) (v:=(.string ⟨S.toArray⟩)) rfl (by kernel_rfl) (by kernel_rfl) (by kernel_rfl) (fun _ _ _ h=>h) (Or.inl ⟨by kernel_rfl,fun w=>by go_simp⟩) ?_
         refine wpAny_take (i:=8) (v:=(.string ⟨r.toArray⟩)) rfl (by kernel_rfl) (by kernel_rfl) (by kernel_rfl) (fun _ _ _ h=>h) (Or.inl ⟨by kernel_rfl,fun w=>by go_simp⟩) ?_
         refine any_seqI [9,10,11] [_,_,_] _ _ _ rfl (by kernel_rfl) ?_
         go_wp2_with fail
         refine (T.out _).mono ?_
         rintro e w2 ⟨rfl,c2⟩
         have R2:=R1.below c2
         have X2:=X1.below c2
         have B2:=bel_trans BW c2
         go_wp2_with fail
         refine (HT1.out _).mono ?_
         rintro e w3 ⟨rfl,c3⟩
         have R3:=R2.below c3
         have X3:=X2.below c3
         have B3:=bel_trans B2 c3
         have xc2:=X3.cell 2 _ rfl
         have xf2:=X3.frozen 2
         have R4:=R3.other (w.heap.size+1) 2 (.string ⟨key.toArray⟩) (by omega)
         have X4:=X3.set 2 (.string ⟨key.toArray⟩)
         have B4:=B3.setCell (p:=⟨w.heap.size+1,2,none⟩) (by show w.heap.size≤w.heap.size+1;omega) (.string ⟨key.toArray⟩)
         go_wp2_with fail
         refine (HT2.out _).mono ?_
         rintro e w5 ⟨rfl,c5⟩
         have R5:=R4.below c5
         have X5:=X4.below c5
         have B5:=bel_trans B4 c5
         have xc3:=X5.cell 3 _ rfl
         have xf3:=X5.frozen 3
         have R6:=R5.other (w.heap.size+1) 3 (.string ⟨val.toArray⟩) (by omega)
         have X6:=X5.set 3 (.string ⟨val.toArray⟩)
         have B6:=B5.setCell (p:=⟨w.heap.size+1,3,none⟩) (by show w.heap.size≤w.heap.size+1;omega) (.string ⟨val.toArray⟩)
         clear xc2 xf2 x0
         have xd0:=X6.cell 0 _ rfl
         have xd1:=X6.cell 1 _ rfl
         have xd2:=X6.cell 2 _ rfl
         have xd3:=X6.cell 3 _ rfl
         go_wp2_with fail
         refine (M.out _).mono ?_
         rintro e w7 ⟨rfl,c7⟩
         have R7:=R6.below c7
         have X7:=X6.below c7
         have B7:=bel_trans B6 c7
         clear xd0 xd1 xd2 xd3 xc3 xf3
         have xde0:=X7.cell 0 _ rfl
         have xde1:=X7.cell 1 _ rfl
         have xde2:=X7.cell 2 _ rfl
         have xde3:=X7.cell 3 _ rfl
         have rc0:=R7.cell 0 _ rfl
         have rf0:=R7.frozen 0
         have rc1:=R7.cell 1 _ rfl
         have rf1:=R7.frozen 1
         have rc2:=R7.cell 2 _ rfl
         have rf2:=R7.frozen 2
         have rc3:=R7.cell 3 _ rfl
         have rf3:=R7.frozen 3
         go_wp2_with fail
         generalize hW:World.setCell _ _ _=W
         have RW:SBox W w.heap.size 64 #[.int .i64 (a.toNat:Int),.int .i64 (b.toNat:Int),.string ⟨key.toArray⟩,.string ⟨val.toArray⟩]:=by rw [← hW];exact R7.put4 _ _ _ _
         have BZ:Below w.heap.size w W:=by rw [← hW];exact bel_put4 B7 (Nat.le_refl _) _ _ _ _
         exact bodyPost_ret (v:=.tuple #[evA ((a.toNat:Int),(b.toNat:Int),key,val),.int .i64 0]) (results_row_tmp Tryz.results236 _ _ w.heap.size 64 _ (0,0) _ rfl RW Tryz.underlying64 rfl size_ev) rfl ⟨rfl,BZ⟩
        ·rw [if_neg hm] at hT
         rw [decide_eq_false hm] at M
         rw [takeER_bad hT]
         clear hT hm
         go_enter Tryz.func236,Tryz.ntmps236
         go_wp2_with fail
         refine wp_region_any (by kernel_rfl) ?_
         change wpAny _ _ _ _ _ _ _ (World.drew _)
         refine wpAny_take (i:=0) (v:=(.string ⟨S.toArray⟩)) rfl (by kernel_rfl) (by kernel_rfl) (by kernel_rfl) (fun _ _ _ h=>h) (Or.inl ⟨by kernel_rfl,fun w=>by go_simp⟩) ?_
         refine wpAny_take (i:=1) (v:=(.int .u8 (a.toNat:Int))) rfl (by kernel_rfl) (by kernel_rfl) (by kernel_rfl) (fun _ _ _ h=>h) (Or.inl ⟨by kernel_rfl,fun w=>by go_simp⟩) ?_
         refine wpAny_take (i:=2) (v:=(.int .i64 (a.toNat:Int))) rfl (by kernel_rfl) (by kernel_rfl) (by kernel_rfl) (fun _ _ _ h=>h) (Or.inl ⟨by kernel_rfl,fun w=>by go_simp⟩) ?_
         refine wpAny_take (i:=3) (v:=(.string ⟨S.toArray⟩)) rfl (by kernel_rfl) (by kernel_rfl) (by kernel_rfl) (fun _ _ _ h=>h) (Or.inl ⟨by kernel_rfl,fun w=>by go_simp⟩) ?_
         refine wpAny_take (i:=4) (v:=(.int .u8 (b.toNat:Int))) rfl (by kernel_rfl) (by kernel_rfl) (by kernel_rfl) (fun _ _ _ h=>h) (Or.inl ⟨by kernel_rfl,fun w=>by go_simp⟩) ?_
         refine wpAny_take (i:=5) (v:=(.int .i64 (b.toNat:Int))) rfl (by kernel_rfl) (by kernel_rfl) (by kernel_rfl) (fun _ _ _ h=>h) (Or.inl ⟨by kernel_rfl,fun w=>by go_simp⟩) ?_
         refine wpAny_take (i:=6) (v:=(.agg #[.int .i64 (a.toNat:Int),.int .i64 (b.toNat:Int),.string ⟨#[]⟩,.string ⟨#[]⟩])) rfl (by kernel_rfl) (by kernel_rfl) (by kernel_rfl) (fun _ _ _ h=>h) (Or.inl ⟨by kernel_rfl,fun w=>by go_simp⟩) ?_
         refine wpAny_take (i:=7) (v:=(.string ⟨S.toArray⟩)) rfl (by kernel_rfl) (by kernel_rfl) (by kernel_rfl) (fun _ _ _ h=>h) (Or.inl ⟨by kernel_rfl,fun w=>by go_simp⟩) ?_
         refine wpAny_take (i:=8) (v:=(.string ⟨r.toArray⟩)) rfl (by kernel_rfl) (by kernel_rfl) (by kernel_rfl) (fun _ _ _ h=>h) (Or.inl ⟨by kernel_rfl,fun w=>by go_simp⟩) ?_
         refine any_seqI [9,10,11] [_,_,_] _ _ _ rfl (by kernel_rfl) ?_
         go_wp2_with fail
         refine (T.out _).mono ?_
         rintro e w2 ⟨rfl,c2⟩
         have R2:=R1.below c2
         have X2:=X1.below c2
         have B2:=bel_trans BW c2
         go_wp2_with fail
         refine (HT1.out _).mono ?_
         rintro e w3 ⟨rfl,c3⟩
         have R3:=R2.below c3
         have X3:=X2.below c3
         have B3:=bel_trans B2 c3
         have xc2:=X3.cell 2 _ rfl
         have xf2:=X3.frozen 2
         have R4:=R3.other (w.heap.size+1) 2 (.string ⟨key.toArray⟩) (by omega)
         have X4:=X3.set 2 (.string ⟨key.toArray⟩)
         have B4:=B3.setCell (p:=⟨w.heap.size+1,2,none⟩) (by show w.heap.size≤w.heap.size+1;omega) (.string ⟨key.toArray⟩)
         go_wp2_with fail
         refine (HT2.out _).mono ?_
         rintro e w5 ⟨rfl,c5⟩
         have R5:=R4.below c5
         have X5:=X4.below c5
         have B5:=bel_trans B4 c5
         have xc3:=X5.cell 3 _ rfl
         have xf3:=X5.frozen 3
         have R6:=R5.other (w.heap.size+1) 3 (.string ⟨val.toArray⟩) (by omega)
         have X6:=X5.set 3 (.string ⟨val.toArray⟩)
         have B6:=B5.setCell (p:=⟨w.heap.size+1,3,none⟩) (by show w.heap.size≤w.heap.size+1;omega) (.string ⟨val.toArray⟩)
         clear xc2 xf2 x0
         have xd0:=X6.cell 0 _ rfl
         have xd1:=X6.cell 1 _ rfl
         have xd2:=X6.cell 2 _ rfl
         have xd3:=X6.cell 3 _ rfl
         go_wp2_with fail
         refine (M.out _).mono ?_
         rintro e w7 ⟨rfl,c7⟩
         have R7:=R6.below c7
         have X7:=X6.below c7
         have B7:=bel_trans B6 c7
         clear xd0 xd1 xd2 xd3 xc3 xf3
         have rc0:=R7.cell 0 _ rfl
         have rf0:=R7.frozen 0
         have rc1:=R7.cell 1 _ rfl
         have rf1:=R7.frozen 1
         have rc2:=R7.cell 2 _ rfl
         have rf2:=R7.frozen 2
         have rc3:=R7.cell 3 _ rfl
         have rf3:=R7.frozen 3
         go_wp2_with fail
         generalize hW:World.setCell _ _ _=W
         have RW:SBox W w.heap.size 64 #[.int .i64 0,.int .i64 0,.string ⟨#[]⟩,.string ⟨#[]⟩]:=by rw [← hW];exact R7.put4 _ _ _ _
         have BZ:Below w.heap.size w W:=by rw [← hW];exact bel_put4 B7 (Nat.le_refl _) _ _ _ _
         exact bodyPost_ret (v:=.tuple #[evA (0,0,[],[]),.int .i64 3]) (results_row_tmp Tryz.results236 _ _ w.heap.size 64 _ (0,0) _ rfl RW Tryz.underlying64 rfl size_ev) rfl ⟨rfl,BZ⟩
      | cons y0 ys =>
        rw [if_pos (by right;simp)] at hT
        rw [takeER_bad hT]
        obtain ⟨y,hy⟩:∃ y,y0::ys=y:=⟨_,rfl⟩
        have q:=ne_empty' y (by rw [← hy];simp)
        rw [hy] at HT2
        clear hT hy
        go_enter Tryz.func236,Tryz.ntmps236
        go_wp2_with fail
        refine wp_region_any (by kernel_rfl) ?_
        change wpAny _ _ _ _ _ _ _ (World.drew _)
        refine wpAny_take (i:=0) (v:=(.string ⟨S.toArray⟩)) rfl (by kernel_rfl) (by kernel_rfl) (by kernel_rfl) (fun _ _ _ h=>h) (Or.inl ⟨by kernel_rfl,fun w=>by go_simp⟩) ?_
        refine wpAny_take (i:=1) (v:=(.int .u8 (a.toNat:Int))) rfl (by kernel_rfl) (by kernel_rfl) (by kernel_rfl) (fun _ _ _ h=>h) (Or.inl ⟨by kernel_rfl,fun w=>by go_simp⟩) ?_
        refine wpAny_take (i:=2) (v:=(.int .i64 (a.toNat:Int))) rfl (by kernel_rfl) (by kernel_rfl) (by kernel_rfl) (fun _ _ _ h=>h) (Or.inl ⟨by kernel_rfl,fun w=>by go_simp⟩) ?_
        refine wpAny_take (i:=3) (v:=(.string ⟨S.toArray⟩)) rfl (by kernel_rfl) (by kernel_rfl) (by kernel_rfl) (fun _ _ _ h=>h) (Or.inl ⟨by kernel_rfl,fun w=>by go_simp⟩) ?_
        refine wpAny_take (i:=4) (v:=(.int .u8 (b.toNat:Int))) rfl (by kernel_rfl) (by kernel_rfl) (by kernel_rfl) (fun _ _ _ h=>h) (Or.inl ⟨by kernel_rfl,fun w=>by go_simp⟩) ?_
        refine wpAny_take (i:=5) (v:=(.int .i64 (b.toNat:Int))) rfl (by kernel_rfl) (by kernel_rfl) (by kernel_rfl) (fun _ _ _ h=>h) (Or.inl ⟨by kernel_rfl,fun w=>by go_simp⟩) ?_
        refine wpAny_take (i:=6) (v:=(.agg #[.int .i64 (a.toNat:Int),.int .i64 (b.toNat:Int),.string ⟨#[]⟩,.string ⟨#[]⟩])) rfl (by kernel_rfl) (by kernel_rfl) (by kernel_rfl) (fun _ _ _ h=>h) (Or.inl ⟨by kernel_rfl,fun w=>by go_simp⟩) ?_
        refine wpAny_take (i:=7) (v:=(.string ⟨S.toArray⟩)) rfl (by kernel_rfl) (by kernel_rfl) (by kernel_rfl) (fun _ _ _ h=>h) (Or.inl ⟨by kernel_rfl,fun w=>by go_simp⟩) ?_
        refine wpAny_take (i:=8) (v:=(.string ⟨r.toArray⟩)) rfl (by kernel_rfl) (by kernel_rfl) (by kernel_rfl) (fun _ _ _ h=>h) (Or.inl ⟨by kernel_rfl,fun w=>by go_simp⟩) ?_
        refine any_seqI [9,10,11] [_,_,_] _ _ _ rfl (by kernel_rfl) ?_
        go_wp2_with fail
        refine (T.out _).mono ?_
        rintro e w2 ⟨rfl,c2⟩
        have R2:=R1.below c2
        have X2:=X1.below c2
        have B2:=bel_trans BW c2
        go_wp2_with fail
        refine (HT1.out _).mono ?_
        rintro e w3 ⟨rfl,c3⟩
        have R3:=R2.below c3
        have X3:=X2.below c3
        have B3:=bel_trans B2 c3
        have xc2:=X3.cell 2 _ rfl
        have xf2:=X3.frozen 2
        have R4:=R3.other (w.heap.size+1) 2 (.string ⟨key.toArray⟩) (by omega)
        have X4:=X3.set 2 (.string ⟨key.toArray⟩)
        have B4:=B3.setCell (p:=⟨w.heap.size+1,2,none⟩) (by show w.heap.size≤w.heap.size+1;omega) (.string ⟨key.toArray⟩)
        go_wp2_with fail
        refine (HT2.out _).mono ?_
        rintro e w5 ⟨rfl,c5⟩
        have R5:=R4.below c5
        have X5:=X4.below c5
        have B5:=bel_trans B4 c5
        have xc3:=X5.cell 3 _ rfl
        have xf3:=X5.frozen 3
        have R6:=R5.other (w.heap.size+1) 3 (.string ⟨val.toArray⟩) (by omega)
        have X6:=X5.set 3 (.string ⟨val.toArray⟩)
        have B6:=B5.setCell (p:=⟨w.heap.size+1,3,none⟩) (by show w.heap.size≤w.heap.size+1;omega) (.string ⟨val.toArray⟩)
        clear xc2 xf2 x0
        have rca0:=R5.cell 0 _ rfl
        have rfa0:=R5.frozen 0
        have rca1:=R5.cell 1 _ rfl
        have rfa1:=R5.frozen 1
        have rca2:=R5.cell 2 _ rfl
        have rfa2:=R5.frozen 2
        have rca3:=R5.cell 3 _ rfl
        have rfa3:=R5.frozen 3
        have rc0:=R6.cell 0 _ rfl
        have rf0:=R6.frozen 0
        have rc1:=R6.cell 1 _ rfl
        have rf1:=R6.frozen 1
        have rc2:=R6.cell 2 _ rfl
        have rf2:=R6.frozen 2
        have rc3:=R6.cell 3 _ rfl
        have rf3:=R6.frozen 3
        go_wp2_with fail
        generalize hW:World.setCell _ _ _=W
        have RW:SBox W w.heap.size 64 #[.int .i64 0,.int .i64 0,.string ⟨#[]⟩,.string ⟨#[]⟩]:=by rw [← hW];exact R6.put4 _ _ _ _
        have BZ:Below w.heap.size w W:=by rw [← hW];exact bel_put4 B6 (Nat.le_refl _) _ _ _ _
        exact bodyPost_ret (v:=.tuple #[evA (0,0,[],[]),.int .i64 3]) (results_row_tmp Tryz.results236 _ _ w.heap.size 64 _ (0,0) _ rfl RW Tryz.underlying64 rfl size_ev) rfl ⟨rfl,BZ⟩
     ·rw [if_pos (Or.inl h2)] at hT
      rw [takeER_bad hT]
      have j2:((e2:Int) != 0)=true:=by rw [bne_iff_ne];omega
      clear hT h2
      go_enter Tryz.func236,Tryz.ntmps236
      go_wp2_with fail
      refine wp_region_any (by kernel_rfl) ?_
      change wpAny _ _ _ _ _ _ _ (World.drew _)
      refine wpAny_take (i:=0) (v:=(.string ⟨S.toArray⟩)) rfl (by kernel_rfl) (by kernel_rfl) (by kernel_rfl) (fun _ _ _ h=>h) (Or.inl ⟨by kernel_rfl,fun w=>by go_simp⟩) ?_
      refine wpAny_take (i:=1) (v:=(.int .u8 (a.toNat:Int))) rfl (by kernel_rfl) (by kernel_rfl) (by kernel_rfl) (fun _ _ _ h=>h) (Or.inl ⟨by kernel_rfl,fun w=>by go_simp⟩) ?_
      refine wpAny_take (i:=2) (v:=(.int .i64 (a.toNat:Int))) rfl (by kernel_rfl) (by kernel_rfl) (by kernel_rfl) (fun _ _ _ h=>h) (Or.inl ⟨by kernel_rfl,fun w=>by go_simp⟩) ?_
      refine wpAny_take (i:=3) (v:=(.string ⟨S.toArray⟩)) rfl (by kernel_rfl) (by kernel_rfl) (by kernel_rfl) (fun _ _ _ h=>h) (Or.inl ⟨by kernel_rfl,fun w=>by go_simp⟩) ?_
      refine wpAny_take (i:=4) (v:=(.int .u8 (b.toNat:Int))) rfl (by kernel_rfl) (by kernel_rfl) (by kernel_rfl) (fun _ _ _ h=>h) (Or.inl ⟨by kernel_rfl,fun w=>by go_simp⟩) ?_
      refine wpAny_take (i:=5) (v:=(.int .i64 (b.toNat:Int))) rfl (by kernel_rfl) (by kernel_rfl) (by kernel_rfl) (fun _ _ _ h=>h) (Or.inl ⟨by kernel_rfl,fun w=>by go_simp⟩) ?_
      refine wpAny_take (i:=6) (v:=(.agg #[.int .i64 (a.toNat:Int),.int .i64 (b.toNat:Int),.string ⟨#[]⟩,.string ⟨#[]⟩])) rfl (by kernel_rfl) (by kernel_rfl) (by kernel_rfl) (fun _ _ _ h=>h) (Or.inl ⟨by kernel_rfl,fun w=>by go_simp⟩) ?_
      refine wpAny_take (i:=7) (v:=(.string ⟨S.toArray⟩)) rfl (by kernel_rfl) (by kernel_rfl) (by kernel_rfl) (fun _ _ _ h=>h) (Or.inl ⟨by kernel_rfl,fun w=>by go_simp⟩) ?_
      refine wpAny_take (i:=8) (v:=(.string ⟨r.toArray⟩)) rfl (by kernel_rfl) (by kernel_rfl) (by kernel_rfl) (fun _ _ _ h=>h) (Or.inl ⟨by kernel_rfl,fun w=>by go_simp⟩) ?_
      refine any_seqI [9,10,11] [_,_,_] _ _ _ rfl (by kernel_rfl) ?_
      go_wp2_with fail
      refine (T.out _).mono ?_
      rintro e w2 ⟨rfl,c2⟩
      have R2:=R1.below c2
      have X2:=X1.below c2
      have B2:=bel_trans BW c2
      go_wp2_with fail
      refine (HT1.out _).mono ?_
      rintro e w3 ⟨rfl,c3⟩
      have R3:=R2.below c3
      have X3:=X2.below c3
      have B3:=bel_trans B2 c3
      have xc2:=X3.cell 2 _ rfl
      have xf2:=X3.frozen 2
      have R4:=R3.other (w.heap.size+1) 2 (.string ⟨key.toArray⟩) (by omega)
      have X4:=X3.set 2 (.string ⟨key.toArray⟩)
      have B4:=B3.setCell (p:=⟨w.heap.size+1,2,none⟩) (by show w.heap.size≤w.heap.size+1;omega) (.string ⟨key.toArray⟩)
      go_wp2_with fail
      refine (HT2.out _).mono ?_
      rintro e w5 ⟨rfl,c5⟩
      have R5:=R4.below c5
      have X5:=X4.below c5
      have B5:=bel_trans B4 c5
      have xc3:=X5.cell 3 _ rfl
      have xf3:=X5.frozen 3
      have R6:=R5.other (w.heap.size+1) 3 (.string ⟨val.toArray⟩) (by omega)
      have X6:=X5.set 3 (.string ⟨val.toArray⟩)
      have B6:=B5.setCell (p:=⟨w.heap.size+1,3,none⟩) (by show w.heap.size≤w.heap.size+1;omega) (.string ⟨val.toArray⟩)
      clear xc2 xf2 x0
      have rca0:=R5.cell 0 _ rfl
      have rfa0:=R5.frozen 0
      have rca1:=R5.cell 1 _ rfl
      have rfa1:=R5.frozen 1
      have rca2:=R5.cell 2 _ rfl
      have rfa2:=R5.frozen 2
      have rca3:=R5.cell 3 _ rfl
      have rfa3:=R5.frozen 3
      have rc0:=R6.cell 0 _ rfl
      have rf0:=R6.frozen 0
      have rc1:=R6.cell 1 _ rfl
      have rf1:=R6.frozen 1
      have rc2:=R6.cell 2 _ rfl
      have rf2:=R6.frozen 2
      have rc3:=R6.cell 3 _ rfl
      have rf3:=R6.frozen 3
      go_wp2_with fail
      generalize hW:World.setCell _ _ _=W
      have RW:SBox W w.heap.size 64 #[.int .i64 0,.int .i64 0,.string ⟨#[]⟩,.string ⟨#[]⟩]:=by rw [← hW];exact R6.put4 _ _ _ _
      have BZ:Below w.heap.size w W:=by rw [← hW];exact bel_put4 B6 (Nat.le_refl _) _ _ _ _
      exact bodyPost_ret (v:=.tuple #[evA (0,0,[],[]),.int .i64 3]) (results_row_tmp Tryz.results236 _ _ w.heap.size 64 _ (0,0) _ rfl RW Tryz.underlying64 rfl size_ev) rfl ⟨rfl,BZ⟩
    ·rw [if_pos h1] at hT
     rw [takeER_bad hT]
     have j1:((e1:Int) != 0)=true:=by rw [bne_iff_ne];omega
     clear hT h1
     go_enter Tryz.func236,Tryz.ntmps236
     go_wp2_with fail
     refine wp_region_any (by kernel_rfl) ?_
     change wpAny _ _ _ _ _ _ _ (World.drew _)
     refine wpAny_take (i:=0) (v:=(.string ⟨S.toArray⟩)) rfl (by kernel_rfl) (by kernel_rfl) (by kernel_rfl) (fun _ _ _ h=>h) (Or.inl ⟨by kernel_rfl,fun w=>by go_simp⟩) ?_
     refine wpAny_take (i:=1) (v:=(.int .u8 (a.toNat:Int))) rfl (by kernel_rfl) (by kernel_rfl) (by kernel_rfl) (fun _ _ _ h=>h) (Or.inl ⟨by kernel_rfl,fun w=>by go_simp⟩) ?_
     refine wpAny_take (i:=2) (v:=(.int .i64 (a.toNat:Int))) rfl (by kernel_rfl) (by kernel_rfl) (by kernel_rfl) (fun _ _ _ h=>h) (Or.inl ⟨by kernel_rfl,fun w=>by go_simp⟩) ?_
     refine wpAny_take (i:=3) (v:=(.string ⟨S.toArray⟩)) rfl (by kernel_rfl) (by kernel_rfl) (by kernel_rfl) (fun _ _ _ h=>h) (Or.inl ⟨by kernel_rfl,fun w=>by go_simp⟩) ?_
     refine wpAny_take (i:=4) (v:=(.int .u8 (b.toNat:Int))) rfl (by kernel_rfl) (by kernel_rfl) (by kernel_rfl) (fun _ _ _ h=>h) (Or.inl ⟨by kernel_rfl,fun w=>by go_simp⟩) ?_
     refine wpAny_take (i:=5) (v:=(.int .i64 (b.toNat:Int))) rfl (by kernel_rfl) (by kernel_rfl) (by kernel_rfl) (fun _ _ _ h=>h) (Or.inl ⟨by kernel_rfl,fun w=>by go_simp⟩) ?_
     refine wpAny_take (i:=6) (v:=(.agg #[.int .i64 (a.toNat:Int),.int .i64 (b.toNat:Int),.string ⟨#[]⟩,.string ⟨#[]⟩])) rfl (by kernel_rfl) (by kernel_rfl) (by kernel_rfl) (fun _ _ _ h=>h) (Or.inl ⟨by kernel_rfl,fun w=>by go_simp⟩) ?_
     refine wpAny_take (i:=7) (v:=(.string ⟨S.toArray⟩)) rfl (by kernel_rfl) (by kernel_rfl) (by kernel_rfl) (fun _ _ _ h=>h) (Or.inl ⟨by kernel_rfl,fun w=>by go_simp⟩) ?_
     refine wpAny_take (i:=8) (v:=(.string ⟨r.toArray⟩)) rfl (by kernel_rfl) (by kernel_rfl) (by kernel_rfl) (fun _ _ _ h=>h) (Or.inl ⟨by kernel_rfl,fun w=>by go_simp⟩) ?_
     refine any_seqI [9,10,11] [_,_,_] _ _ _ rfl (by kernel_rfl) ?_
     go_wp2_with fail
     refine (T.out _).mono ?_
     rintro e w2 ⟨rfl,c2⟩
     have R2:=R1.below c2
     have X2:=X1.below c2
     have B2:=bel_trans BW c2
     go_wp2_with fail
     refine (HT1.out _).mono ?_
     rintro e w3 ⟨rfl,c3⟩
     have R3:=R2.below c3
     have X3:=X2.below c3
     have B3:=bel_trans B2 c3
     have xc2:=X3.cell 2 _ rfl
     have xf2:=X3.frozen 2
     have R4:=R3.other (w.heap.size+1) 2 (.string ⟨key.toArray⟩) (by omega)
     have X4:=X3.set 2 (.string ⟨key.toArray⟩)
     have B4:=B3.setCell (p:=⟨w.heap.size+1,2,none⟩) (by show w.heap.size≤w.heap.size+1;omega) (.string ⟨key.toArray⟩)
     go_wp2_with fail
     refine (HT2.out _).mono ?_
     rintro e w5 ⟨rfl,c5⟩
     have R5:=R4.below c5
     have X5:=X4.below c5
     have B5:=bel_trans B4 c5
     have xc3:=X5.cell 3 _ rfl
     have xf3:=X5.frozen 3
     have R6:=R5.other (w.heap.size+1) 3 (.string ⟨val.toArray⟩) (by omega)
     have X6:=X5.set 3 (.string ⟨val.toArray⟩)
     have B6:=B5.setCell (p:=⟨w.heap.size+1,3,none⟩) (by show w.heap.size≤w.heap.size+1;omega) (.string ⟨val.toArray⟩)
     clear xc2 xf2 x0
     have rca0:=R5.cell 0 _ rfl
     have rfa0:=R5.frozen 0
     have rca1:=R5.cell 1 _ rfl
     have rfa1:=R5.frozen 1
     have rca2:=R5.cell 2 _ rfl
     have rfa2:=R5.frozen 2
     have rca3:=R5.cell 3 _ rfl
     have rfa3:=R5.frozen 3
     have rc0:=R6.cell 0 _ rfl
     have rf0:=R6.frozen 0
     have rc1:=R6.cell 1 _ rfl
     have rf1:=R6.frozen 1
     have rc2:=R6.cell 2 _ rfl
     have rf2:=R6.frozen 2
     have rc3:=R6.cell 3 _ rfl
     have rf3:=R6.frozen 3
     go_wp2_with fail
     generalize hW:World.setCell _ _ _=W
     have RW:SBox W w.heap.size 64 #[.int .i64 0,.int .i64 0,.string ⟨#[]⟩,.string ⟨#[]⟩]:=by rw [← hW];exact R6.put4 _ _ _ _
     have BZ:Below w.heap.size w W:=by rw [← hW];exact bel_put4 B6 (Nat.le_refl _) _ _ _ _
     exact bodyPost_ret (v:=.tuple #[evA (0,0,[],[]),.int .i64 3]) (results_row_tmp Tryz.results236 _ _ w.heap.size 64 _ (0,0) _ rfl RW Tryz.underlying64 rfl size_ev) rfl ⟨rfl,BZ⟩
   ·rw [if_neg hk] at hT
    have hT3:=fun W=>ptextsN (a.toNat:Int) hk W
    have T:Hid (∀ W,Calls Tryz.prog 149 #[.int .i64 (a.toNat:Int)] W fun e w'=>e=.returned (.tuple #[.bool false,.int .i64 0])∧Below W.heap.size W w'):=hT3
    clear hT3 hk l2
    have M:Hid (∀ W,Calls Tryz.prog 123 #[.agg #[.int .i64 (a.toNat:Int),.int .i64 (b.toNat:Int),.string ⟨#[]⟩,.string ⟨#[]⟩]] W fun e w'=>e=.returned (.bool (decide (mayE ((a.toNat:Int),(b.toNat:Int),[],[]))))∧Below W.heap.size W w'):=fun W=>pmay_any _ _ [] [] W
    by_cases hr:r=[]
    ·subst hr
     by_cases hm:mayE ((a.toNat:Int),(b.toNat:Int),[],[])
     ·rw [if_neg (by intro h;rcases h with h | h;simp at h;exact h hm)] at hT
      rw [decide_eq_true hm] at M
      rw [takeER_ok hT]
      clear hT hm
      go_enter Tryz.func236,Tryz.ntmps236
      go_wp2_with fail
      refine wp_region_any (by kernel_rfl) ?_
      change wpAny _ _ _ _ _ _ _ (World.drew _)
      refine wpAny_take (i:=0) (v:=(.string ⟨S.toArray⟩)) rfl (by kernel_rfl) (by kernel_rfl) (by kernel_rfl) (fun _ _ _ h=>h) (Or.inl ⟨by kernel_rfl,fun w=>by go_simp⟩) ?_
      refine wpAny_take (i:=1) (v:=(.int .u8 (a.toNat:Int))) rfl (by kernel_rfl) (by kernel_rfl) (by kernel_rfl) (fun _ _ _ h=>h) (Or.inl ⟨by kernel_rfl,fun w=>by go_simp⟩) ?_
      refine wpAny_take (i:=2) (v:=(.int .i64 (a.toNat:Int))) rfl (by kernel_rfl) (by kernel_rfl) (by kernel_rfl) (fun _ _ _ h=>h) (Or.inl ⟨by kernel_rfl,fun w=>by go_simp⟩) ?_
      refine wpAny_take (i:=3) (v:=(.string ⟨S.toArray⟩)) rfl (by kernel_rfl) (by kernel_rfl) (by kernel_rfl) (fun _ _ _ h=>h) (Or.inl ⟨by kernel_rfl,fun w=>by go_simp⟩) ?_
      refine wpAny_take (i:=4) (v:=(.int .u8 (b.toNat:Int))) rfl (by kernel_rfl) (by kernel_rfl) (by kernel_rfl) (fun _ _ _ h=>h) (Or.inl ⟨by kernel_rfl,fun w=>by go_simp⟩) ?_
      refine wpAny_take (i:=5) (v:=(.int .i64 (b.toNat:Int))) rfl (by kernel_rfl) (by kernel_rfl) (by kernel_rfl) (fun _ _ _ h=>h) (Or.inl ⟨by kernel_rfl,fun w=>by go_simp⟩) ?_
      refine wpAny_take (i:=6) (v:=(.agg #[.int .i64 (a.toNat:Int),.int .i64 (b.toNat:Int),.string ⟨#[]⟩,.string ⟨#[]⟩])) rfl (by kernel_rfl) (by kernel_rfl) (by kernel_rfl) (fun _ _ _ h=>h) (Or.inl ⟨by kernel_rfl,fun w=>by go_simp⟩) ?_
      refine wpAny_take (i:=7) (v:=(.string ⟨S.toArray⟩)) rfl (by kernel_rfl) (by kernel_rfl) (by kernel_rfl) (fun _ _ _ h=>h) (Or.inl ⟨by kernel_rfl,fun w=>by go_simp⟩) ?_
      refine wpAny_take (i:=8) (v:=(.string ⟨#[]⟩)) rfl (by kernel_rfl) (by kernel_rfl) (by kernel_rfl) (fun _ _ _ h=>h) (Or.inl ⟨by kernel_rfl,fun w=>by go_simp⟩) ?_
      refine any_seqI [9,10,11] [_,_,_] _ _ _ rfl (by kernel_rfl) ?_
      go_wp2_with fail
      refine (T.out _).mono ?_
      rintro e w2 ⟨rfl,c2⟩
      have R2:=R1.below c2
      have X2:=X1.below c2
      have B2:=bel_trans BW c2
      have xd0:=X2.cell 0 _ rfl
      have xd1:=X2.cell 1 _ rfl
      have xd2:=X2.cell 2 _ rfl
      have xd3:=X2.cell 3 _ rfl
      go_wp2_with fail
      refine (M.out _).mono ?_
      rintro e w7 ⟨rfl,c7⟩
      have R7:=R2.below c7
      have X7:=X2.below c7
      have B7:=bel_trans B2 c7
      clear xd0 xd1 xd2 xd3 x0
      have xde0:=X7.cell 0 _ rfl
      have xde1:=X7.cell 1 _ rfl
      have xde2:=X7.cell 2 _ rfl
      have xde3:=X7.cell 3 _ rfl
      have rc0:=R7.cell 0 _ rfl
      have rf0:=R7.frozen 0
      have rc1:=R7.cell 1 _ rfl
      have rf1:=R7.frozen 1
      have rc2:=R7.cell 2 _ rfl
      have rf2:=R7.frozen 2
      have rc3:=R7.cell 3 _ rfl
      have rf3:=R7.frozen 3
      go_wp2_with fail
      generalize hW:World.setCell _ _ _=W
      have RW:SBox W w.heap.size 64 #[.int .i64 (a.toNat:Int),.int .i64 (b.toNat:Int),.string ⟨#[]⟩,.string ⟨#[]⟩]:=by rw [← hW];exact R7.put4 _ _ _ _
      have BZ:Below w.heap.size w W:=by rw [← hW];exact bel_put4 B7 (Nat.le_refl _) _ _ _ _
      exact bodyPost_ret (v:=.tuple #[evA ((a.toNat:Int),(b.toNat:Int),[],[]),.int .i64 0]) (results_row_tmp Tryz.results236 _ _ w.heap.size 64 _ (0,0) _ rfl RW Tryz.underlying64 rfl size_ev) rfl ⟨rfl,BZ⟩
     ·rw [if_pos (Or.inr hm)] at hT
      rw [decide_eq_false hm] at M
      rw [takeER_bad hT]
      clear hT hm
      go_enter Tryz.func236,Tryz.ntmps236
      go_wp2_with fail
      refine wp_region_any (by kernel_rfl) ?_
      change wpAny _ _ _ _ _ _ _ (World.drew _)
      refine wpAny_take (i:=0) (v:=(.string ⟨S.toArray⟩)) rfl (by kernel_rfl) (by kernel_rfl) (by kernel_rfl) (fun _ _ _ h=>h) (Or.inl ⟨by kernel_rfl,fun w=>by go_simp⟩) ?_
      refine wpAny_take (i:=1) (v:=(.int .u8 (a.toNat:Int))) rfl (by kernel_rfl) (by kernel_rfl) (by kernel_rfl) (fun _ _ _ h=>h) (Or.inl ⟨by kernel_rfl,fun w=>by go_simp⟩) ?_
      refine wpAny_take (i:=2) (v:=(.int .i64 (a.toNat:Int))) rfl (by kernel_rfl) (by kernel_rfl) (by kernel_rfl) (fun _ _ _ h=>h) (Or.inl ⟨by kernel_rfl,fun w=>by go_simp⟩) ?_
      refine wpAny_take (i:=3) (v:=(.string ⟨S.toArray⟩)) rfl (by kernel_rfl) (by kernel_rfl) (by kernel_rfl) (fun _ _ _ h=>h) (Or.inl ⟨by kernel_rfl,fun w=>by go_simp⟩) ?_
      refine wpAny_take (i:=4) (v:=(.int .u8 (b.toNat:Int))) rfl (by kernel_rfl) (by kernel_rfl) (by kernel_rfl) (fun _ _ _ h=>h) (Or.inl ⟨by kernel_rfl,fun w=>by go_simp⟩) ?_
      refine wpAny_take (i:=5) (v:=(.int .i64 (b.toNat:Int))) rfl (by kernel_rfl) (by kernel_rfl) (by kernel_rfl) (fun _ _ _ h=>h) (Or.inl ⟨by kernel_rfl,fun w=>by go_simp⟩) ?_
      refine wpAny_take (i:=6) (v:=(.agg #[.int .i64 (a.toNat:Int),.int .i64 (b.toNat:Int),.string ⟨#[]⟩,.string ⟨#[]⟩])) rfl (by kernel_rfl) (by kernel_rfl) (by kernel_rfl) (fun _ _ _ h=>h) (Or.inl ⟨by kernel_rfl,fun w=>by go_simp⟩) ?_
      refine wpAny_take (i:=7) (v:=(.string ⟨S.toArray⟩)) rfl (by kernel_rfl) (by kernel_rfl) (by kernel_rfl) (fun _ _ _ h=>h) (Or.inl ⟨by kernel_rfl,fun w=>by go_simp⟩) ?_
      refine wpAny_take (i:=8) (v:=(.string ⟨#[]⟩)) rfl (by kernel_rfl) (by kernel_rfl) (by kernel_rfl) (fun _ _ _ h=>h) (Or.inl ⟨by kernel_rfl,fun w=>by go_simp⟩) ?_
      refine any_seqI [9,10,11] [_,_,_] _ _ _ rfl (by kernel_rfl) ?_
      go_wp2_with fail
      refine (T.out _).mono ?_
      rintro e w2 ⟨rfl,c2⟩
      have R2:=R1.below c2
      have X2:=X1.below c2
      have B2:=bel_trans BW c2
      have xd0:=X2.cell 0 _ rfl
      have xd1:=X2.cell 1 _ rfl
      have xd2:=X2.cell 2 _ rfl
      have xd3:=X2.cell 3 _ rfl
      go_wp2_with fail
      refine (M.out _).mono ?_
      rintro e w7 ⟨rfl,c7⟩
      have R7:=R2.below c7
      have X7:=X2.below c7
      have B7:=bel_trans B2 c7
      clear xd0 xd1 xd2 xd3 x0
      have rc0:=R7.cell 0 _ rfl
      have rf0:=R7.frozen 0
      have rc1:=R7.cell 1 _ rfl
      have rf1:=R7.frozen 1
      have rc2:=R7.cell 2 _ rfl
      have rf2:=R7.frozen 2
      have rc3:=R7.cell 3 _ rfl
      have rf3:=R7.frozen 3
      go_wp2_with fail
      generalize hW:World.setCell _ _ _=W
      have RW:SBox W w.heap.size 64 #[.int .i64 0,.int .i64 0,.string ⟨#[]⟩,.string ⟨#[]⟩]:=by rw [← hW];exact R7.put4 _ _ _ _
      have BZ:Below w.heap.size w W:=by rw [← hW];exact bel_put4 B7 (Nat.le_refl _) _ _ _ _
      exact bodyPost_ret (v:=.tuple #[evA (0,0,[],[]),.int .i64 3]) (results_row_tmp Tryz.results236 _ _ w.heap.size 64 _ (0,0) _ rfl RW Tryz.underlying64 rfl size_ev) rfl ⟨rfl,BZ⟩
    ·rw [if_pos (Or.inl (by cases r with | nil=>exact absurd rfl hr | cons _ _=>simp))] at hT
     rw [takeER_bad hT]
     have q:=ne_empty' r hr
     clear hT hr
     go_enter Tryz.func236,Tryz.ntmps236
     go_wp2_with fail
     refine wp_region_any (by kernel_rfl) ?_
     change wpAny _ _ _ _ _ _ _ (World.drew _)
     refine wpAny_take (i:=0) (v:=(.string ⟨S.toArray⟩)) rfl (by kernel_rfl) (by kernel_rfl) (by kernel_rfl) (fun _ _ _ h=>h) (Or.inl ⟨by kernel_rfl,fun w=>by go_simp⟩) ?_
     refine wpAny_take (i:=1) (v:=(.int .u8 (a.toNat:Int))) rfl (by kernel_rfl) (by kernel_rfl) (by kernel_rfl) (fun _ _ _ h=>h) (Or.inl ⟨by kernel_rfl,fun w=>by go_simp⟩) ?_
     refine wpAny_take (i:=2) (v:=(.int .i64 (a.toNat:Int))) rfl (by kernel_rfl) (by kernel_rfl) (by kernel_rfl) (fun _ _ _ h=>h) (Or.inl ⟨by kernel_rfl,fun w=>by go_simp⟩) ?_
     refine wpAny_take (i:=3) (v:=(.string ⟨S.toArray⟩)) rfl (by kernel_rfl) (by kernel_rfl) (by kernel_rfl) (fun _ _ _ h=>h) (Or.inl ⟨by kernel_rfl,fun w=>by go_simp⟩) ?_
     refine wpAny_take (i:=4) (v:=(.int .u8 (b.toNat:Int))) rfl (by kernel_rfl) (by kernel_rfl) (by kernel_rfl) (fun _ _ _ h=>h) (Or.inl ⟨by kernel_rfl,fun w=>by go_simp⟩) ?_
     refine wpAny_take (i:=5) (v:=(.int .i64 (b.toNat:Int))) rfl (by kernel_rfl) (by kernel_rfl) (by kernel_rfl) (fun _ _ _ h=>h) (Or.inl ⟨by kernel_rfl,fun w=>by go_simp⟩) ?_
     refine wpAny_take (i:=6) (v:=(.agg #[.int .i64 (a.toNat:Int),.int .i64 (b.toNat:Int),.string ⟨#[]⟩,.string ⟨#[]⟩])) rfl (by kernel_rfl) (by kernel_rfl) (by kernel_rfl) (fun _ _ _ h=>h) (Or.inl ⟨by kernel_rfl,fun w=>by go_simp⟩) ?_
     refine wpAny_take (i:=7) (v:=(.string ⟨S.toArray⟩)) rfl (by kernel_rfl) (by kernel_rfl) (by kernel_rfl) (fun _ _ _ h=>h) (Or.inl ⟨by kernel_rfl,fun w=>by go_simp⟩) ?_
     refine wpAny_take (i:=8) (v:=(.string ⟨r.toArray⟩)) rfl (by kernel_rfl) (by kernel_rfl) (by kernel_rfl) (fun _ _ _ h=>h) (Or.inl ⟨by kernel_rfl,fun w=>by go_simp⟩) ?_
     refine any_seqI [9,10,11] [_,_,_] _ _ _ rfl (by kernel_rfl) ?_
     go_wp2_with fail
     refine (T.out _).mono ?_
     rintro e w2 ⟨rfl,c2⟩
     have R2:=R1.below c2
     have X2:=X1.below c2
     have B2:=bel_trans BW c2
     have rc0:=R2.cell 0 _ rfl
     have rf0:=R2.frozen 0
     have rc1:=R2.cell 1 _ rfl
     have rf1:=R2.frozen 1
     have rc2:=R2.cell 2 _ rfl
     have rf2:=R2.frozen 2
     have rc3:=R2.cell 3 _ rfl
     have rf3:=R2.frozen 3
     go_wp2_with fail
     generalize hW:World.setCell _ _ _=W
     have RW:SBox W w.heap.size 64 #[.int .i64 0,.int .i64 0,.string ⟨#[]⟩,.string ⟨#[]⟩]:=by rw [← hW];exact R2.put4 _ _ _ _
     have BZ:Below w.heap.size w W:=by rw [← hW];exact bel_put4 B2 (Nat.le_refl _) _ _ _ _
     exact bodyPost_ret (v:=.tuple #[evA (0,0,[],[]),.int .i64 3]) (results_row_tmp Tryz.results236 _ _ w.heap.size 64 _ (0,0) _ rfl RW Tryz.underlying64 rfl size_ev) rfl ⟨rfl,BZ⟩
end Go.Proofs.YtkkenfhlgpjmjaaGreatDoor
namespace Go.Proofs.YtkkenfhlgpjmjaaGreatDoor
set_option maxRecDepth 100000
open Go.RowKit
set_option linter.unusedVariables false
attribute [local go_sem] ba_size
theorem made_txt (n:Nat):(madeCells #[.string ByteArray.empty] n).toList=strV (List.replicate n []):=by
 apply List.ext_getElem?
 intro j
 by_cases hj:j < n
 ·simp [madeCells,hj,strV,Nat.mod_one];rfl
 ·simp [madeCells,hj,strV]
theorem strV_put (D R:List (List UInt8)) (z s:List UInt8):(strV (D++z::R)).set D.length (.string ⟨s.toArray⟩)=strV (D++s::R):=by
 simp [strV]
theorem rep_drop {α:Type} (n k:Nat) (z:α) (h:k < n):List.replicate (n - k) z=z::List.replicate (n - (k+1)) z:=by
 rw [show n - k=(n - (k+1))+1 by omega,List.replicate_succ]
theorem strV_z (D R:List (List UInt8)) (z:List UInt8):(strV (D++z::R))[D.length]?=some (.string ⟨z.toArray⟩):=by simp [strV]
set_option maxHeartbeats 2000000 in
theorem peachL_any (h:List Ev) (v:Value) (w:World) (hT:IsEvs w v h) :
 Calls Tryz.prog 79 #[v,.func (.func 80) #[] #[]] w fun e w'=>TxRes w (leavesE h) e w':=by
 obtain ⟨i0,hi,hz0,hz1,hz2⟩:=info_parts str_info
 obtain ⟨a,cap,rfl,h1,h2,h3,HC⟩:=hT.some_at
 obtain ⟨n,hn⟩:∃ n,h.length=n:=⟨_,rfl⟩
 have HN:Hid (h.length=n):=hn
 rw [hn] at h1 h3 ⊢
 clear hT hn
 by_cases hbig:256 < n
 ·rw [leavesE_big h (by have:=HN.out;omega)]
  have j:(256:Int) < (n:Int):=by omega
  go_enter Tryz.func79,Tryz.ntmps79
  go_wp2_with fail
  go_ret2
  exact ⟨_,rfl,Below.refl _ _,World.ownsRow_nil _ _ _ _⟩
 ·have j:¬ (256:Int) < (n:Int):=by omega
  go_enter Tryz.func79,Tryz.ntmps79
  go_wp2_with (at_make;refine wpList_make_full _ rfl _ _ 59 rfl w.heap.size 9 i0 (.string ByteArray.empty) 1 Tryz.underlying59 hi hz0 hz1 .i64 .i64 _ _ n rfl rfl rfl rfl ?c1 ?c2 ?c3 ?_)
  case c1=>omega
  case c2=>unfold maxLen;omega
  intro w1 hown1 hgr1
  have hB1:Below w.heap.size w w1:=(Below.refl _ w).grown hgr1 (Nat.le_refl _) (fun k h=>by cases h)
  have hrow1:w1.ownsRow w.heap.size 9 1 (.slice (some ⟨w.heap.size,0,none⟩) n n) n (strV ([]++List.replicate (n - 0) [])):=by
   have e:=made_txt n
   have hown1':w1.ownsRow w.heap.size 9 1 (.slice (some ⟨w.heap.size,0,none⟩) n n) n (madeCells #[.string ByteArray.empty] n).toList:=hown1
   rw [e] at hown1'
   exact hown1'
  clear hown1 hgr1
  go_wp2_with fail
  go_loopw [17] (fun i wr=>∃ (k:Nat),k≤n∧i=.int .i64 k∧Hid (allMay (h.take k))∧Below w.heap.size w wr∧wr.ownsRow w.heap.size 9 1 (.slice (some ⟨w.heap.size,0,none⟩) n n) n (strV ((h.take k).map bytE++List.replicate (n - k) []))) (fun i _=>n - (RowKit.intOf i).toNat)
  case atStart=>exact ⟨0,Nat.zero_le _,rfl,(by intro x hx;simp at hx),hB1,hrow1⟩
  case round =>
   obtain ⟨k,hk,rfl,HA,hbw,hrow⟩:=hrel
   by_cases hlt:k < n
   ·have hk1:k < h.length:=by have:=HN.out;omega
    obtain ⟨bb,off,rfl,hblt,hcell⟩:=HC.out k hk1
    obtain ⟨p0,p1,p2,p3⟩:=IsEvs.at hk1 hcell
    have q0:=(hbw.cell (p:=⟨bb,off+k*4,none⟩) hblt).trans p0
    have q1:=(hbw.cell (p:=⟨bb,off+k*4+1,none⟩) hblt).trans p1
    have q2:=(hbw.cell (p:=⟨bb,off+k*4+2,none⟩) hblt).trans p2
    have q3:=(hbw.cell (p:=⟨bb,off+k*4+3,none⟩) hblt).trans p3
    clear p0 p1 p2 p3 hcell
    obtain ⟨⟨x0,x1,x2,x3⟩,hx⟩:∃ x,h[k]=x:=⟨_,rfl⟩
    have HX:Hid (h[k]=(x0,x1,x2,x3)):=hx
    rw [hx] at q0 q1 q2 q3
    simp only at q0 q1 q2 q3
    clear hx
    have C:=fun W=>pbytes6_any x0 x1 x2 x3 W
    have HD:Hid (((h.take k).map bytE).length=k):=by show _=_;simp;omega
    rw [rep_drop n k _ hlt] at hrow
    have hz:=strV_z ((h.take k).map bytE) (List.replicate (n - (k+1)) []) []
    rw [HD.out] at hz
    by_cases hm:mayE (x0,x1,x2,x3)
    ·rw [bytesE_ok _ hm] at C
     have HB:Hid (bytE h[k]=bytE (x0,x1,x2,x3)):=by show _=_;rw [HX.out]
     have HA':Hid (allMay (h.take (k+1))):=allMay_next h k hk1 HA.out (by rw [HX.out];exact hm)
     obtain ⟨s,hs⟩:∃ s,bytE (x0,x1,x2,x3)=s:=⟨_,rfl⟩
     rw [hs] at C HB
     have HV:Hid ((strV ((h.take k).map bytE++[]::List.replicate (n - (k+1)) [])).set k (.string ⟨s.toArray⟩)=strV ((h.take (k+1)).map bytE++List.replicate (n - (k+1)) [])):=by
      show _=_
      have e:=strV_put ((h.take k).map bytE) (List.replicate (n - (k+1)) []) [] s
      rw [HD.out] at e
      rw [e,List.take_succ_eq_append_getElem hk1,List.map_append,List.map_cons,List.map_nil,HB.out]
      simp
     clear hs hm
     go_wp2_with fail
     refine (C _).mono ?_
     rintro e w3 ⟨rfl,b3⟩
     have hrow3:=owns_below hrow b3
     have f0:w3.cell? ⟨w.heap.size,k,none⟩=some (.string ⟨#[]⟩):=(hrow3.cellAt k (by omega)).trans hz
     have f1:=hrow3.frozenAt k
     have B3:=bel_trans hbw b3
     have hs4:=(hrow3.stored k (.string ⟨s.toArray⟩)).1
     rw [HV.out] at hs4
     clear hrow hrow3 hz
     go_wp2_with fail
     go_roundw
     case rel=>exact ⟨k+1,by omega,by first | go_num | simp,HA',B3.setCell (Nat.le_refl _) _,hs4⟩
     case measure=>simp [RowKit.intOf];omega
    ·rw [bytesE_no _ hm] at C
     have HE:Hid (leavesE h=([],1)):=leavesE_bad h (by have:=HN.out;omega) k hk1 (by rw [HX.out];exact hm)
     clear hm
     go_wp2_with fail
     refine (C _).mono ?_
     rintro e w3 ⟨rfl,b3⟩
     have hrow3:=owns_below hrow b3
     have f0:w3.cell? ⟨w.heap.size,k,none⟩=some (.string ⟨#[]⟩):=(hrow3.cellAt k (by omega)).trans hz
     have f1:=hrow3.frozenAt k
     have B3:=bel_trans hbw b3
     clear hrow hrow3 hz
     go_wp2_with fail
     go_ret2
     refine ⟨_,by rw [HE.out];rfl,B3.setCell (Nat.le_refl _) _,?_⟩
     rw [HE.out]
     exact World.ownsRow_nil _ _ _ _
   ·obtain rfl:k=n:=by omega
    have HE:Hid (leavesE h=(h.map bytE,0)):=by
     have:=HA.out
     rw [List.take_of_length_le (by have:=HN.out;omega)] at this
     exact leavesE_ok h (by have:=HN.out;omega) this
    have HF:Hid (h.take k=h):=List.take_of_length_le (by have:=HN.out;omega)
    go_wp2_with fail
    go_ret2
    refine ⟨_,by rw [HE.out];rfl,hbw,?_⟩
    rw [HE.out]
    show World.ownsRow _ _ _ _ _ (h.map bytE).length _
    rw [List.length_map,HN.out]
    rw [HF.out,show k - k=0 by omega,List.replicate_zero,List.append_nil] at hrow
    exact hrow
theorem pleaves_any (h:List Ev) (v:Value) (w:World) (hT:IsEvs w v h) :
 Calls Tryz.prog 32 #[v] w fun e w'=>TxRes w (leavesE h) e w':=by
 have H:=peachL_any h v w hT
 obtain ⟨R,hR⟩:∃ R,leavesE h=R:=⟨_,rfl⟩
 rw [hR] at H ⊢
 clear hR hT
 go_enter Tryz.func32,Tryz.ntmps32
 go_wp2_with fail
 refine H.mono ?_
 rintro e w1 hres
 obtain ⟨r,rfl,hb1,hown⟩:=hres
 go_wp2_with fail
 go_ret2
 exact ⟨r,rfl,hb1,hown⟩
attribute [local go_sem] ba_size ba_get ba_extract take_drop_end wv_get wv_getE wv_set wv_size
set_option maxHeartbeats 1000000 in
theorem sum_any (S:List UInt8) (hS:S.length≤9223372036854775000) (w:World) (hG:G w) :
 Calls Tryz.prog 82 #[.string ⟨S.toArray⟩] w fun e w'=>e=.returned (.string ⟨(sumL S).toArray⟩)∧Below w.heap.size w w':=by
 have hg3:=hG.size
 obtain ⟨H,hH⟩:∃ H,startL 0=H:=⟨_,rfl⟩
 have lH:H.length=8:=by rw [← hH];rfl
 have hs:=start_good 0 (by omega) (by omega) w hG
 rw [hH] at hs
 have hsz:(Tryz.prog.info? 194).map (·.size)=some (wv H).size:=by rw [size8,wv_size,lH]
 go_enter Tryz.func82,Tryz.ntmps82
 go_wp2_with fail
 refine hs.mono ?_
 rintro e w1 ⟨rfl,hb1⟩
 go_upto_region 2 with (refine wpList_store_row rfl 194 _ _ rfl w1.heap.size (wv H) rfl rfl 194 (wv Z8) (heap_alloc_new w1 _) hsz (by rw [wv_size,wv_size,lH];rfl) (wv_one _) ?_)
 change Code.wp _ _ _ _ ((w1.alloc (.cells (wv Z8) 194)).setRow w1.heap.size (wv H))
 obtain ⟨w2,hw2⟩:∃ w2,(w1.alloc (.cells (wv Z8) 194)).setRow w1.heap.size (wv H)=w2:=⟨_,rfl⟩
 have hrow2:w2.heap[w1.heap.size]?=some (.cells (wv H) 194 (0,0)):=by rw [← hw2];exact setRow_heap _ _ _ _ _ _ (heap_alloc_new w1 _)
 have hb2:Below w.heap.size w w2:=by rw [← hw2];exact below_setRow (hb1.alloc hb1.size _) hb1.size _
 have hG2:G w2:=hG.below hb2 hg3
 rw [hw2]
 clear hw2
 go_wp2_with (refine wpList_load_row rfl 194 _ rfl w1.heap.size rfl 194 (wv H) (0,0) _ hrow2 Tryz.underlying194 rfl hsz ?_)
 refine (fold_any H lH S hS _ hG2).mono ?_
 rintro e w3 ⟨rfl,hb3⟩
 go_wp2_with fail
 go_ret
 exact ⟨by unfold sumL;rw [hH];rfl,hb2.trans (hb3.mono hb2.size)⟩
end Go.Proofs.YtkkenfhlgpjmjaaGreatDoor
namespace Go.Proofs.YtkkenfhlgpjmjaaGreatDoor
set_option maxRecDepth 100000
open Go.RowKit
set_option linter.unusedVariables false
attribute [local go_sem] ba_size ba_get ba_extract ba_append take_drop_end
theorem psumL_any (S:List UInt8) (hS:S.length≤9223372036854775000) (w:World) (hG:G w) :
 Calls Tryz.prog 82 #[.string ⟨S.toArray⟩] w fun e w'=>e=.returned (.string ⟨(sumL S).toArray⟩)∧Below w.heap.size w w':=sum_any S hS w hG
set_option maxHeartbeats 400000 in
theorem pleafIn_any (s:List UInt8) (hs:s.length≤1125899906842624) (w:World) :
 Calls Tryz.prog 151 #[.string ⟨s.toArray⟩] w fun e w'=>e=.returned (.string ⟨(leafI s).toArray⟩)∧w'=w:=by
 go_enter Tryz.func151,Tryz.ntmps151
 go_wp2
 go_ret
 exact ⟨rfl,rfl⟩
set_option maxHeartbeats 400000 in
theorem pnodeIn_any (a b:List UInt8) (ha:a.length≤1125899906842624) (hb:b.length≤1125899906842624) (w:World) :
 Calls Tryz.prog 153 #[.string ⟨a.toArray⟩,.string ⟨b.toArray⟩] w fun e w'=>e=.returned (.string ⟨(nodeI a b).toArray⟩)∧w'=w:=by
 have h1:1+a.length+b.length≤9223372036854775807:=by omega
 go_enter Tryz.func153,Tryz.ntmps153
 go_wp2
 go_ret
 exact ⟨rfl,rfl⟩
set_option maxHeartbeats 400000 in
theorem prootIn_any (n:Nat) (hn:n≤140737488351232) (c:List UInt8) (hc:c.length≤32) (w:World) :
 Calls Tryz.prog 83 #[.int .i64 n,.string ⟨c.toArray⟩] w fun e w'=>e=.returned (.string ⟨(rootI n c).toArray⟩)∧Below w.heap.size w w':=by
 have x1:IntKind.u64.wrap (n:Int)=n:=by rw [IntKind.wrap_u64];omega
 have hl:=Lm.numL_length n
 have hcn:Lm.cnt n≤8:=Lm.cnt_le n
 obtain ⟨N,hN⟩:∃ N,Lm.numL n=N:=⟨_,rfl⟩
 have hc1:=num_any n (by omega) w
 rw [hN] at hc1 hl
 have hl1:1+N.length≤9223372036854775807:=by omega
 have hl2:1+N.length+c.length≤9223372036854775807:=by omega
 go_enter Tryz.func83,Tryz.ntmps83
 go_wp2_with fail
 refine hc1.mono ?_
 rintro e w1 ⟨rfl,hb1⟩
 go_wp2_with fail
 go_ret
 exact ⟨by unfold rootI;rw [hN];rfl,hb1⟩
def ln (x:Nat):Nat:=if x=0 then 0 else x.log2+1
theorem hf_ln:∀ n,n < 4097→2≤n→hf n=2 ^ (ln (n - 1) - 1)∧1≤ln (n - 1)∧ln (n - 1)≤12:=by decide +kernel
end Go.Proofs.YtkkenfhlgpjmjaaGreatDoor
namespace Go.Proofs.YtkkenfhlgpjmjaaGreatDoor
set_option maxRecDepth 100000
open Go.RowKit
set_option linter.unusedVariables false
theorem tab_at:∀ x,x < 256→(Lib.len8tab[x]?.getD 0).toNat=ln x∧ln x≤8:=by decide +kernel
theorem tab_eq:Lib.len8tab.size=256:=by decide +kernel
theorem tab_get (x:Nat) (h:x < Lib.len8tab.size):(Lib.len8tab[x]'h).toNat=ln x:=by
 have hx:x < 256:=by rw [← tab_eq];exact h
 have:=(tab_at x hx).1
 rw [getElem?_pos Lib.len8tab x h] at this
 exact this
theorem tab_ret (x:Nat) (h:x < Lib.len8tab.size):wrap64 (wrap64 ((Lib.len8tab[x]'h).toNat:Int))=ln x:=by
 have hx:x < 256:=by rw [← tab_eq];exact h
 have:=(tab_at x hx).2
 rw [tab_get];unfold wrap64;omega
attribute [local go_sem] ba_size ba_get in
set_option maxHeartbeats 1000000 in
theorem plen64_small (x:Nat) (hx:x < 256) (w:World) :
 Calls Tryz.prog 264 #[.int .u64 x] w fun e w'=>e=.returned (.int .i64 (ln x))∧w'=w:=by
 have i0:decide ((4294967296:Int)≤(x:Int))=false:=decide_eq_false (by omega)
 have i1:decide ((65536:Int)≤(x:Int))=false:=decide_eq_false (by omega)
 have i2:decide ((256:Int)≤(x:Int))=false:=decide_eq_false (by omega)
 go_enter Tryz.func264,Tryz.ntmps264
 go_wp2
 go_ret
 refine ⟨?_,rfl⟩
 simp only [tab_ret]
 rfl
theorem ln_256:∀ x,x < 4096→256≤x→ln x=8+ln (x / 256)∧ln x≤12:=by decide +kernel
set_option maxHeartbeats 1000000 in
theorem plen64_int (x:Int) (h1:256≤x) (hx:x < 4096) (w:World) :
 Calls Tryz.prog 264 #[.int .u64 x] w fun e w'=>e=.returned (.int .i64 (ln x.toNat))∧w'=w:=by
 have i0:decide ((4294967296:Int)≤x)=false:=decide_eq_false (by omega)
 have i1:decide ((65536:Int)≤x)=false:=decide_eq_false (by omega)
 have i2:decide ((256:Int)≤x)=true:=decide_eq_true h1
 have hb:(x / 256).toNat < Lib.len8tab.size:=by rw [tab_eq];omega
 go_enter Tryz.func264,Tryz.ntmps264
 go_wp2
 go_ret
 refine ⟨congrArg Ending.returned (congrArg (Value.int IntKind.i64) ?_),rfl⟩
 simp only [tab_get]
 have e:(x / 256).toNat=x.toNat / 256:=by omega
 have l:=ln_256 x.toNat (by omega) (by omega)
 rw [e]
 unfold wrap64;omega
theorem plen64_any (x:Nat) (hx:x < 4096) (w:World) :
 Calls Tryz.prog 264 #[.int .u64 x] w fun e w'=>e=.returned (.int .i64 (ln x))∧w'=w:=by
 by_cases h:x < 256
 ·exact plen64_small x h w
 ·exact plen64_int (x:Int) (by omega) (by omega) w
set_option maxHeartbeats 400000 in
theorem plen_any (x:Nat) (hx:x < 4096) (w:World) :
 Calls Tryz.prog 222 #[.int .u64 x] w fun e w'=>e=.returned (.int .i64 (ln x))∧w'=w:=by
 go_enter Tryz.func222,Tryz.ntmps222
 go_wp2_with fail
 refine (plen64_any x hx w).mono ?_
 rintro e w1 ⟨rfl,rfl⟩
 go_wp2_with fail
 go_ret
 exact ⟨rfl,rfl⟩
theorem shl_ln:∀ a:Nat,a < 12→wrap64 (2 ^ a)=((2 ^ a:Nat):Int):=by decide +kernel
set_option maxHeartbeats 400000 in
theorem phalf_any (n:Nat) (h2:2≤n) (hn:n≤4096) (w:World) :
 Calls Tryz.prog 152 #[.int .i64 n] w fun e w'=>e=.returned (.int .i64 (hf n))∧w'=w:=by
 obtain ⟨e1,e2,e3⟩:=hf_ln n (by omega) h2
 have hL:=plen_any (n - 1) (by omega) w
 rw [show (((n - 1:Nat)):Int)=(n:Int) - 1 by omega] at hL
 obtain ⟨a,ha⟩:∃ a,ln (n - 1)=a+1:=⟨ln (n - 1) - 1,by omega⟩
 rw [ha] at hL e1 e2 e3
 rw [Nat.add_sub_cancel] at e1
 rw [e1]
 have x0:IntKind.i64.wrap ((n:Int) - 1)=(n:Int) - 1:=by rw [IntKind.wrap_i64];omega
 have x1:IntKind.u64.wrap ((n:Int) - 1)=(n:Int) - 1:=by rw [IntKind.wrap_u64];omega
 clear e1 ha
 go_enter Tryz.func152,Tryz.ntmps152
 go_wp2_with fail
 refine hL.mono ?_
 rintro e w1 ⟨rfl,rfl⟩
 go_wp2_with fail
 go_ret
 exact ⟨congrArg Ending.returned (congrArg (Value.int IntKind.i64) (shl_ln a (by omega))),rfl⟩
end Go.Proofs.YtkkenfhlgpjmjaaGreatDoor
namespace Go.Proofs.YtkkenfhlgpjmjaaGreatDoor
set_option maxRecDepth 100000
set_option linter.unusedVariables false
def insL (sm:List UInt8→List UInt8) (l:List (List UInt8)):List (List UInt8) :=
 if l.length=0 then [] else if h:l.length≤1 then [topL sm l] else insL sm (l.drop (hf l.length))++insL sm (l.take (hf l.length))++[topL sm l]
 termination_by l.length
 decreasing_by
  ·have:=hf_pos l.length;simp;omega
  ·have:=hf_lt l.length (by omega);simp;omega
theorem insL_nil (sm:List UInt8→List UInt8) (l:List (List UInt8)) (h:l.length=0):insL sm l=[]:=by rw [insL,if_pos h]
theorem insL_one (sm:List UInt8→List UInt8) (s:List UInt8):insL sm [s]=[leafI s]:=by rw [insL,if_neg (by simp),dif_pos (by simp),topL_one]
theorem insL_more (sm:List UInt8→List UInt8) (l:List (List UInt8)) (h:2≤l.length):insL sm l=insL sm (l.drop (hf l.length))++insL sm (l.take (hf l.length))++[topL sm l]:=by
 rw [insL,if_neg (by omega),dif_neg (by omega)]
theorem topL_crown (sm:List UInt8→List UInt8) (l:List (List UInt8)) (h:2≤l.length):topL sm l=nodeI (crownL sm (l.take (hf l.length))) (crownL sm (l.drop (hf l.length))):=by
 have hlt:=hf_lt l.length h
 have hps:=hf_pos l.length
 rw [topL_more sm l h]
 unfold crownL
 rw [if_neg (by rw [List.length_take];omega),if_neg (by rw [List.length_drop];omega)]
theorem sumL_len32 (S:List UInt8):(sumL S).length=32:=fl_len _ _
theorem crownL_le32 (sm:List UInt8→List UInt8) (h32:∀ s,(sm s).length=32) (l:List (List UInt8)):(crownL sm l).length≤32:=by
 unfold crownL
 by_cases h:l.length=0
 ·rw [if_pos h];simp
 ·rw [if_neg h,h32];omega
theorem insL_odd (sm:List UInt8→List UInt8):∀ (m:Nat) (l:List (List UInt8)),l.length=m→1≤m→(insL sm l).length+1=2*m:=by
 intro m
 induction m using Nat.strongRecOn with
 | _ m ih =>
   intro l hm h0
   by_cases h1:l.length≤1
   ·match l,h1,hm with
    | [s],_,hm=>rw [insL_one];simp at hm ⊢;omega
    | [],_,hm=>simp at hm;omega
    | _::_::_,h1,_=>simp at h1
   ·have hlt:=hf_lt l.length (by omega)
    have hps:=hf_pos l.length
    have i1:=ih (l.length - hf l.length) (by omega) (l.drop (hf l.length)) List.length_drop (by omega)
    have i2:=ih (hf l.length) (by omega) (l.take (hf l.length)) (by rw [List.length_take];omega) hps
    rw [insL_more sm l (by omega),List.length_append,List.length_append,List.length_singleton]
    omega
theorem insL_len (sm:List UInt8→List UInt8) (m:Nat) (l:List (List UInt8)) (hm:l.length=m):(insL sm l).length≤2*m:=by
 by_cases h0:l.length=0
 ·rw [insL_nil sm l h0];simp
 ·have:=insL_odd sm m l hm (by omega);omega
open Go.RowKit
attribute [local go_sem] ba_size ba_append ba_get ba_extract
theorem bytE_len (x:Ev) (h:mayE x):(bytE x).length≤80∧2≤(bytE x).length:=by
 unfold bytE txtE
 by_cases hk:keyedE x.1
 ·rw [if_pos hk]
  obtain ⟨_,h5⟩:=h
  rw [if_pos hk] at h5
  have l1:=Lm.lenL_le x.2.2.1.length
  have l2:=Lm.lenL_le x.2.2.2.length
  simp only [List.length_cons,List.length_append]
  omega
 ·rw [if_neg hk];simp
end Go.Proofs.YtkkenfhlgpjmjaaGreatDoor
namespace Go.Proofs.YtkkenfhlgpjmjaaGreatDoor
set_option maxRecDepth 100000
open Go.RowKit
set_option linter.unusedVariables false
attribute [local go_sem] ba_size
def putL:World→Nat→Nat→List Value→World
 | W,_,_,[]=>W
 | W,B,k,v::l=>putL (W.setCell ⟨B,k,none⟩ v) B (k+1) l
theorem SBox.putL {B t:Nat}:∀ (vs pre rest:List Value) (W:World),rest.length=vs.length→SBox W B t (pre++rest).toArray→SBox (putL W B pre.length vs) B t (pre++vs).toArray
 | [],pre,[],W,_,h=>h
 | [],pre,x::rest,W,hl,h=>by simp at hl
 | v::vs,pre,[],W,hl,h=>by simp at hl
 | v::vs,pre,x::rest,W,hl,h=>by
   have h1:=h.set pre.length v
   have e:((pre++x::rest).toArray).setIfInBounds pre.length v=((pre++[v])++rest).toArray:=by
    apply Array.ext'
    simp
   rw [e] at h1
   have h2:=SBox.putL vs (pre++[v]) rest (W.setCell ⟨B,pre.length,none⟩ v) (by simpa using hl) h1
   rw [List.length_append,List.append_assoc] at h2
   exact h2
theorem grown_putL {w:World} {B pb:Nat}:∀ (vs:List Value) (k:Nat) (W:World),w.grownBy W (some pb)→w.heap.size≤B→w.grownBy (putL W B k vs) (some pb)
 | [],k,W,h,_=>h
 | v::vs,k,W,h,hB=>grown_putL vs (k+1) _ ⟨h.os,h.tape,h.output,by simpa [World.setCell] using h.size,fun i hi hne=>(Below.heap_setCell W ⟨B,k,none⟩ v i (by show i≠B;omega)).trans (h.block i hi hne)⟩ hB
theorem kept_putL {B:Nat}:∀ (vs:List Value) (k:Nat) (W:World),W.grownBy (putL W B k vs) (some B)
 | [],k,W=>⟨rfl,rfl,rfl,Nat.le_refl _,fun i hi hne=>rfl⟩
 | v::vs,k,W=>(grown_set14 W B k v).trans (kept_putL vs (k+1) _)
theorem SBox.kept14 {W W':World} {g pb t:Nat} {cs:Array Value} (h:SBox W g t cs) (hg:W.grownBy W' (some pb)) (hne:g≠pb):SBox W' g t cs:=(hg.block g h.lt (fun e=>hne (by cases e;rfl))).trans h
theorem RB.put {W:World} {pb B k:Nat} {R:List UInt8} (vs:List Value) (h:RB W pb R) (hne:pb≠B):RB (putL W B k vs) pb R:=h.kept14 (kept_putL vs k W) hne
section
variable {α β:Type} {w W':World} {pb:Nat} {o:Option (α × List UInt8)} {V:World→α→Value→Prop}
theorem Rd.no (ho:o=none) (hg:w.grownBy W' (some pb)):Rd w pb o V (.panicked fault14) W':=by subst ho;exact ⟨hg,rfl⟩
theorem Rd.yes {a:α} {r:List UInt8} {v:Value} (ho:o=some (a,r)) (hg:w.grownBy W' (some pb)) (hv:V W' a v) (hb:RB W' pb r):Rd w pb o V (.returned v) W':=by subst ho;exact ⟨hg,v,rfl,hv,hb⟩
theorem Rd.is_no {e:Ending} (h:Rd w pb o V e W') (ho:o=none):w.grownBy W' (some pb)∧e=.panicked fault14:=by subst ho;exact h
theorem Rd.is_yes {e:Ending} {a:α} {r:List UInt8} (h:Rd w pb o V e W') (ho:o=some (a,r)):w.grownBy W' (some pb)∧∃ v,e=.returned v∧V W' a v∧RB W' pb r:=by subst ho;exact h
end
theorem pair_no1 {α β:Type} {A:Codec α} {B:Codec β} {s:List UInt8} (h:A.dec s=none):(Codec.pair A B).dec s=none:=by
 show (match A.dec s with | none=>none | some (a,r)=>_)=none
 rw [h]
theorem pair_no2 {α β:Type} {A:Codec α} {B:Codec β} {s r:List UInt8} {a:α} (h:A.dec s=some (a,r)) (h2:B.dec r=none):(Codec.pair A B).dec s=none:=by
 show (match A.dec s with | none=>none | some (a,r)=>match B.dec r with | none=>none | some (b,q)=>some ((a,b),q))=none
 rw [h]
 simp only
 rw [h2]
theorem pair_yes {α β:Type} {A:Codec α} {B:Codec β} {s r q:List UInt8} {a:α} {b:β} (h:A.dec s=some (a,r)) (h2:B.dec r=some (b,q)):(Codec.pair A B).dec s=some ((a,b),q):=by
 show (match A.dec s with | none=>none | some (a,r)=>match B.dec r with | none=>none | some (b,q)=>some ((a,b),q))=_
 rw [h]
 simp only
 rw [h2]
theorem ptxn14 (R:List UInt8) (hR:R.length≤9223372036854770000) (pb:Nat) (w:World) (hb:RB w pb R) :
 Calls Tryz.prog 179 #[.pointer (some ⟨pb,0,none⟩)] w fun e w'=>Rd w pb (Codec.txP.dec R) (fun _ n v=>v=.int .i64 n∧0≤n∧n≤32) e w':=by
 go_enter Tryz.func179,Tryz.ntmps179
 go_wp2_with fail
 refine (pnum14 32 (by omega) R (by omega) pb w hb).mono ?_
 intro e w1 h1
 cases hd:(Codec.num 32).dec R with
 | none=>obtain ⟨g1,rfl⟩:=h1.is_no hd;exact ⟨rfl,Rd.no hd g1⟩
 | some x =>
   obtain ⟨n,r⟩:=x
   obtain ⟨g1,v,rfl,⟨rfl,l1,l2⟩,b1⟩:=h1.is_yes hd
   go_wp2_with fail
   go_ret
   exact Rd.yes hd g1 ⟨rfl,l1,by omega⟩ b1
theorem pplace14 (R:List UInt8) (hR:R.length≤9223372036854770000) (pb:Nat) (w:World) (hb:RB w pb R) :
 Calls Tryz.prog 180 #[.pointer (some ⟨pb,0,none⟩)] w fun e w'=>Rd w pb (Codec.plP.dec R) (fun _ n v=>v=.int .i64 n∧0≤n∧n≤255) e w':=by
 go_enter Tryz.func180,Tryz.ntmps180
 go_wp2_with fail
 refine (pnum14 255 (by omega) R (by omega) pb w hb).mono ?_
 intro e w1 h1
 cases hd:(Codec.num 255).dec R with
 | none=>obtain ⟨g1,rfl⟩:=h1.is_no hd;exact ⟨rfl,Rd.no hd g1⟩
 | some x =>
   obtain ⟨n,r⟩:=x
   obtain ⟨g1,v,rfl,⟨rfl,l1,l2⟩,b1⟩:=h1.is_yes hd
   go_wp2_with fail
   go_ret
   exact Rd.yes hd g1 ⟨rfl,l1,by omega⟩ b1
theorem size_ed14:(Tryz.prog.info? 71).map (·.size)=some 5:=by kernel_rfl
theorem size_pf14:(Tryz.prog.info? 66).map (·.size)=some 6:=by kernel_rfl
set_option maxHeartbeats 2000000 in
theorem pedge14 (R:List UInt8) (hR:R.length≤9223372036854770000) (pb:Nat) (w:World) (hb:RB w pb R) :
 Calls Tryz.prog 182 #[.pointer (some ⟨pb,0,none⟩)] w fun e w'=>Rd w pb (Codec.edP.dec R) (fun _ x v=>v=.agg (edV x).toArray) e w':=by
 have S0:=SBox.new w 71 #[.int .i64 0,.int .i64 0,.int .i64 0,.int .i64 0,.int .i64 0]
 have g0:w.grownBy (w.alloc (.cells #[.int .i64 0,.int .i64 0,.int .i64 0,.int .i64 0,.int .i64 0] 71)) (some pb):=World.grownBy_alloc _ _ _
 have b0:=hb.alloc (.cells #[.int .i64 0,.int .i64 0,.int .i64 0,.int .i64 0,.int .i64 0] 71)
 have hne:w.heap.size≠pb:=by have:=hb.lt;omega
 go_enter Tryz.func182,Tryz.ntmps182
 go_wp2_with fail
 refine (pnum14 3 (by omega) R (by omega) pb _ b0).mono ?_
 intro e w1 h1
 cases d1:(Codec.num 3).dec R with
 | none=>obtain ⟨g1,rfl⟩:=h1.is_no d1;exact ⟨rfl,Rd.no (pair_no1 d1) (g0.trans g1)⟩
 | some x =>
 obtain ⟨x0,r1⟩:=x
 obtain ⟨g1,v,rfl,⟨rfl,_,_⟩,b1⟩:=h1.is_yes d1
 have S1:=S0.kept14 g1 hne
 have G1:=g0.trans g1
 have R1:=Nat.le_trans (dec_less _ d1) hR
 clear h1 S0 g0 b0 g1
 go_wp2_with fail
 refine (ptxn14 r1 R1 pb _ b1).mono ?_
 intro e w2 h2
 cases d2:Codec.txP.dec r1 with
 | none=>obtain ⟨g2,rfl⟩:=h2.is_no d2;exact ⟨rfl,Rd.no (pair_no2 d1 (pair_no1 d2)) (G1.trans g2)⟩
 | some x =>
 obtain ⟨x1,r2⟩:=x
 obtain ⟨g2,v,rfl,⟨rfl,_,_⟩,b2⟩:=h2.is_yes d2
 have S2:=S1.kept14 g2 hne
 have G2:=G1.trans g2
 have R2:=Nat.le_trans (dec_less _ d2) R1
 clear h2 S1 G1 b1 g2
 go_wp2_with fail
 refine (ptxn14 r2 R2 pb _ b2).mono ?_
 intro e w3 h3
 cases d3:Codec.txP.dec r2 with
 | none=>obtain ⟨g3,rfl⟩:=h3.is_no d3;exact ⟨rfl,Rd.no (pair_no2 d1 (pair_no2 d2 (pair_no1 d3))) (G2.trans g3)⟩
 | some x =>
 obtain ⟨x2,r3⟩:=x
 obtain ⟨g3,v,rfl,⟨rfl,_,_⟩,b3⟩:=h3.is_yes d3
 have S3:=S2.kept14 g3 hne
 have G3:=G2.trans g3
 have R3:=Nat.le_trans (dec_less _ d3) R2
 clear h3 S2 G2 b2 g3
 go_wp2_with fail
 refine (pplace14 r3 R3 pb _ b3).mono ?_
 intro e w4 h4
 cases d4:Codec.plP.dec r3 with
 | none=>obtain ⟨g4,rfl⟩:=h4.is_no d4;exact ⟨rfl,Rd.no (pair_no2 d1 (pair_no2 d2 (pair_no2 d3 (pair_no1 d4)))) (G3.trans g4)⟩
 | some x =>
 obtain ⟨x3,r4⟩:=x
 obtain ⟨g4,v,rfl,⟨rfl,_,_⟩,b4⟩:=h4.is_yes d4
 have S4:=S3.kept14 g4 hne
 have G4:=G3.trans g4
 have R4:=Nat.le_trans (dec_less _ d4) R3
 clear h4 S3 G3 b3 g4
 go_wp2_with fail
 refine (pplace14 r4 R4 pb _ b4).mono ?_
 intro e w5 h5
 cases d5:Codec.plP.dec r4 with
 | none=>obtain ⟨g5,rfl⟩:=h5.is_no d5;exact ⟨rfl,Rd.no (pair_no2 d1 (pair_no2 d2 (pair_no2 d3 (pair_no2 d4 d5)))) (G4.trans g5)⟩
 | some x =>
 obtain ⟨x4,r5⟩:=x
 obtain ⟨g5,v,rfl,⟨rfl,_,_⟩,b5⟩:=h5.is_yes d5
 have S5:=S4.kept14 g5 hne
 have G5:=G4.trans g5
 clear h5 S4 G4 b4 g5
 have c0:w5.cell? ⟨w.heap.size,0,none⟩=some (.int .i64 0):=S5.cell 0 _ rfl
 have c1:w5.cell? ⟨w.heap.size,1,none⟩=some (.int .i64 0):=S5.cell 1 _ rfl
 have c2:w5.cell? ⟨w.heap.size,2,none⟩=some (.int .i64 0):=S5.cell 2 _ rfl
 have c3:w5.cell? ⟨w.heap.size,3,none⟩=some (.int .i64 0):=S5.cell 3 _ rfl
 have c4:w5.cell? ⟨w.heap.size,4,none⟩=some (.int .i64 0):=S5.cell 4 _ rfl
 have f0:=S5.frozen 0
 have f1:=S5.frozen 1
 have f2:=S5.frozen 2
 have f3:=S5.frozen 3
 have f4:=S5.frozen 4
 have SP:=SBox.putL [.int .i64 x0,.int .i64 x1,.int .i64 x2,.int .i64 x3,.int .i64 x4] [] [.int .i64 0,.int .i64 0,.int .i64 0,.int .i64 0,.int .i64 0] w5 rfl S5
 have GP:=grown_putL (B:=w.heap.size) [.int .i64 x0,.int .i64 x1,.int .i64 x2,.int .i64 x3,.int .i64 x4] 0 w5 G5 (Nat.le_refl _)
 have BP:=RB.put (k:=0) [.int .i64 x0,.int .i64 x1,.int .i64 x2,.int .i64 x3,.int .i64 x4] b5 (Ne.symm hne)
 go_wp2_with fail
 exact bodyPost_ret (v:=.agg #[.int .i64 x0,.int .i64 x1,.int .i64 x2,.int .i64 x3,.int .i64 x4]) (results_row1 Tryz.results182 _ _ w.heap.size 71 _ (0,0) _ rfl SP Tryz.underlying71 rfl size_ed14) rfl (Rd.yes (pair_yes d1 (pair_yes d2 (pair_yes d3 (pair_yes d4 d5)))) GP rfl BP)
end Go.Proofs.YtkkenfhlgpjmjaaGreatDoor
namespace Go.Proofs.YtkkenfhlgpjmjaaGreatDoor
set_option maxRecDepth 100000
open Go.RowKit
set_option linter.unusedVariables false
attribute [local go_sem] ba_size
theorem ev_dec14 (R:List UInt8):Codec.event.dec R=match (Codec.text 65535).dec R with
 | none=>none
 | some (t,r)=>match takeE t with
   | none=>none
   | some x=>some (x,r):=rfl
set_option maxHeartbeats 2000000 in
theorem pevent14 (R:List UInt8) (hR:R.length≤9223372036854770000) (pb:Nat) (w:World) (hb:RB w pb R) :
 Calls Tryz.prog 183 #[.pointer (some ⟨pb,0,none⟩)] w fun e w'=>Rd w pb (Codec.event.dec R) (fun _ x v=>v=.agg (evV x).toArray) e w':=by
 have S0:=SBox.new w 64 #[.int .i64 0,.int .i64 0,.string ⟨#[]⟩,.string ⟨#[]⟩]
 have g0:w.grownBy (w.alloc (.cells #[.int .i64 0,.int .i64 0,.string ⟨#[]⟩,.string ⟨#[]⟩] 64)) (some pb):=World.grownBy_alloc _ _ _
 have b0:=hb.alloc (.cells #[.int .i64 0,.int .i64 0,.string ⟨#[]⟩,.string ⟨#[]⟩] 64)
 have hne:w.heap.size≠pb:=by have:=hb.lt;omega
 go_enter Tryz.func183,Tryz.ntmps183
 go_wp2_with fail
 refine (ptext14 65535 R (by omega) pb _ b0).mono ?_
 intro e w1 h1
 cases d1:(Codec.text 65535).dec R with
 | none=>obtain ⟨g1,rfl⟩:=h1.is_no d1;exact ⟨rfl,Rd.no (by rw [ev_dec14,d1]) (g0.trans g1)⟩
 | some x =>
 obtain ⟨t,r1⟩:=x
 obtain ⟨g1,v,rfl,⟨rfl,lt⟩,b1⟩:=h1.is_yes d1
 have S1:=S0.kept14 g1 hne
 have G1:=g0.trans g1
 clear h1 S0 g0 b0 g1
 have D:=ptake6_any t (by omega)
 unfold takeER at D
 go_wp2_with fail
 refine (D _).mono ?_
 rintro e w2 ⟨rfl,c2⟩
 have S2:=S1.below c2
 have G2:=G1.trans (grown_below8 (some pb) c2)
 have b2:=b1.below c2
 clear D S1 G1 b1 c2
 have hlt2:=S2.lt
 have hne2:w2.heap.size≠pb:=by have:=b2.lt;omega
 have X3:=SBox.new w2 64 #[.int .i64 0,.int .i64 0,.string ⟨#[]⟩,.string ⟨#[]⟩]
 have S3:=S2.alloc (.cells #[.int .i64 0,.int .i64 0,.string ⟨#[]⟩,.string ⟨#[]⟩] 64)
 have b3:=b2.alloc (.cells #[.int .i64 0,.int .i64 0,.string ⟨#[]⟩,.string ⟨#[]⟩] 64)
 have G3:w.grownBy (w2.alloc (.cells #[.int .i64 0,.int .i64 0,.string ⟨#[]⟩,.string ⟨#[]⟩] 64)) (some pb):=G2.trans (World.grownBy_alloc _ _ _)
 cases hx:takeE t with
 | none =>
   simp only
   go_wp2_with fail
   refine (pwant14_no _).mono ?_
   rintro e w4 ⟨rfl,rfl⟩
   exact ⟨rfl,Rd.no (by rw [ev_dec14,d1];simp only;rw [hx]) G3⟩
 | some x =>
   obtain ⟨x0,x1,x2,x3⟩:=x
   simp only
   go_wp2_with fail
   refine (pwant14_yes _).mono ?_
   rintro e w4 ⟨rfl,hw4⟩
   have SP:=SBox.new w2 64 #[.int .i64 x0,.int .i64 x1,.string ⟨x2.toArray⟩,.string ⟨x3.toArray⟩]
   have SR:=S2.alloc (.cells #[.int .i64 x0,.int .i64 x1,.string ⟨x2.toArray⟩,.string ⟨x3.toArray⟩] 64)
   have bP:=b2.alloc (.cells #[.int .i64 x0,.int .i64 x1,.string ⟨x2.toArray⟩,.string ⟨x3.toArray⟩] 64)
   have GP:w.grownBy (w2.alloc (.cells #[.int .i64 x0,.int .i64 x1,.string ⟨x2.toArray⟩,.string ⟨x3.toArray⟩] 64)) (some pb):=G2.trans (World.grownBy_alloc _ _ _)
   rw [← hw4] at SP SR bP GP
   clear hw4 S3 b3 G3 X3
   have c0:w4.cell? ⟨w2.heap.size,0,none⟩=some (.int .i64 x0):=SP.cell 0 _ rfl
   have c1:w4.cell? ⟨w2.heap.size,1,none⟩=some (.int .i64 x1):=SP.cell 1 _ rfl
   have c2:w4.cell? ⟨w2.heap.size,2,none⟩=some (.string ⟨x2.toArray⟩):=SP.cell 2 _ rfl
   have c3:w4.cell? ⟨w2.heap.size,3,none⟩=some (.string ⟨x3.toArray⟩):=SP.cell 3 _ rfl
   have e0:w4.cell? ⟨w.heap.size,0,none⟩=some (.int .i64 0):=SR.cell 0 _ rfl
   have e1:w4.cell? ⟨w.heap.size,1,none⟩=some (.int .i64 0):=SR.cell 1 _ rfl
   have e2:w4.cell? ⟨w.heap.size,2,none⟩=some (.string ⟨#[]⟩):=SR.cell 2 _ rfl
   have e3:w4.cell? ⟨w.heap.size,3,none⟩=some (.string ⟨#[]⟩):=SR.cell 3 _ rfl
   have f0:=SR.frozen 0
   have f1:=SR.frozen 1
   have f2:=SR.frozen 2
   have f3:=SR.frozen 3
   have SF:=SBox.putL [.int .i64 x0,.int .i64 x1,.string ⟨x2.toArray⟩,.string ⟨x3.toArray⟩] [] [.int .i64 0,.int .i64 0,.string ⟨#[]⟩,.string ⟨#[]⟩] _ rfl SR
   have GF:=grown_putL (B:=w.heap.size) [.int .i64 x0,.int .i64 x1,.string ⟨x2.toArray⟩,.string ⟨x3.toArray⟩] 0 _ GP (Nat.le_refl _)
   have bF:=RB.put (k:=0) [.int .i64 x0,.int .i64 x1,.string ⟨x2.toArray⟩,.string ⟨x3.toArray⟩] bP (Ne.symm hne)
   go_wp2_with fail
   exact bodyPost_ret (v:=.agg #[.int .i64 x0,.int .i64 x1,.string ⟨x2.toArray⟩,.string ⟨x3.toArray⟩]) (results_row1 Tryz.results183 _ _ w.heap.size 64 _ (0,0) _ rfl SF Tryz.underlying64 rfl size_ev) rfl (Rd.yes (by rw [ev_dec14,d1];simp only;rw [hx]) GF rfl bF)
def PfV (B:Nat) (W:World) (p:Pf) (v:Value):Prop:=∃ x:PVt,v=.agg (pfV x).toArray∧x.1=p.1∧x.2.1=p.2.1∧TxB B W x.2.2 p.2.2
set_option maxHeartbeats 2000000 in
theorem pproof14 (R:List UInt8) (hR:R.length≤9223372036854770000) (pb:Nat) (w:World) (hb:RB w pb R) :
 Calls Tryz.prog 114 #[.pointer (some ⟨pb,0,none⟩)] w fun e w'=>Rd w pb (Codec.pfP.dec R) (fun W x v=>PfV (w.heap.size+1) W x v) e w':=by
 have S0:=SBox.new w 66 #[.int .i64 0,.int .i64 0,.int .i64 0,.string ⟨#[]⟩,.string ⟨#[]⟩,.slice none 0 0]
 have g0:w.grownBy (w.alloc (.cells #[.int .i64 0,.int .i64 0,.int .i64 0,.string ⟨#[]⟩,.string ⟨#[]⟩,.slice none 0 0] 66)) (some pb):=World.grownBy_alloc _ _ _
 have b0:=hb.alloc (.cells #[.int .i64 0,.int .i64 0,.int .i64 0,.string ⟨#[]⟩,.string ⟨#[]⟩,.slice none 0 0] 66)
 have hne:w.heap.size≠pb:=by have:=hb.lt;omega
 go_enter Tryz.func114,Tryz.ntmps114
 go_wp2_with fail
 refine (pplace14 R hR pb _ b0).mono ?_
 intro e w1 h1
 cases d1:Codec.plP.dec R with
 | none=>obtain ⟨g1,rfl⟩:=h1.is_no d1;exact ⟨rfl,Rd.no (pair_no1 d1) (g0.trans g1)⟩
 | some x =>
 obtain ⟨x0,r1⟩:=x
 obtain ⟨g1,v,rfl,⟨rfl,_,_⟩,b1⟩:=h1.is_yes d1
 have S1:=S0.kept14 g1 hne
 have G1:=g0.trans g1
 have R1:=Nat.le_trans (dec_less _ d1) hR
 clear h1 S0 g0 b0 g1
 go_wp2_with fail
 refine (pevent14 r1 R1 pb _ b1).mono ?_
 intro e w2 h2
 cases d2:Codec.event.dec r1 with
 | none=>obtain ⟨g2,rfl⟩:=h2.is_no d2;exact ⟨rfl,Rd.no (pair_no2 d1 (pair_no1 d2)) (G1.trans g2)⟩
 | some x =>
 obtain ⟨⟨y0,y1,y2,y3⟩,r2⟩:=x
 obtain ⟨g2,v,rfl,rfl,b2⟩:=h2.is_yes d2
 have S2:=S1.kept14 g2 hne
 have G2:=G1.trans g2
 have R2:=Nat.le_trans (dec_less _ d2) R1
 clear h2 S1 G1 b1 g2
 simp only [evV]
 go_wp2_with fail
 refine (ppath14 r2 (by omega) pb _ b2).mono ?_
 intro e w3 h3
 cases d3:(Codec.row 12 32).dec r2 with
 | none=>obtain ⟨g3,rfl⟩:=h3.is_no d3;exact ⟨rfl,Rd.no (pair_no2 d1 (pair_no2 d2 d3)) (G2.trans g3)⟩
 | some x =>
 obtain ⟨l,r3⟩:=x
 obtain ⟨g3,v,rfl,hV,b3⟩:=h3.is_yes d3
 have S3:=S2.kept14 g3 hne
 have G3:=G2.trans g3
 have hlt:=S2.lt
 obtain ⟨va,vcap,rfl,_⟩:=hV.txt.len
 have hV:=hV.base (C:=w.heap.size+1) (by omega)
 clear h3 S2 G2 b2 g3
 have c0:w3.cell? ⟨w.heap.size,0,none⟩=some (.int .i64 0):=S3.cell 0 _ rfl
 have c1:w3.cell? ⟨w.heap.size,1,none⟩=some (.int .i64 0):=S3.cell 1 _ rfl
 have c2:w3.cell? ⟨w.heap.size,2,none⟩=some (.int .i64 0):=S3.cell 2 _ rfl
 have c3:w3.cell? ⟨w.heap.size,3,none⟩=some (.string ⟨#[]⟩):=S3.cell 3 _ rfl
 have c4:w3.cell? ⟨w.heap.size,4,none⟩=some (.string ⟨#[]⟩):=S3.cell 4 _ rfl
 have c5:w3.cell? ⟨w.heap.size,5,none⟩=some (.slice none 0 0):=S3.cell 5 _ rfl
 have f0:=S3.frozen 0
 have f1:=S3.frozen 1
 have f2:=S3.frozen 2
 have f3:=S3.frozen 3
 have f4:=S3.frozen 4
 have f5:=S3.frozen 5
 obtain ⟨VS,hVS⟩:∃ VS:List Value,VS=[.int .i64 x0,.int .i64 y0,.int .i64 y1,.string ⟨y2.toArray⟩,.string ⟨y3.toArray⟩,.slice va l.length vcap]:=⟨_,rfl⟩
 have SP:=SBox.putL VS [] [.int .i64 0,.int .i64 0,.int .i64 0,.string ⟨#[]⟩,.string ⟨#[]⟩,.slice none 0 0] w3 (by rw [hVS];rfl) S3
 have GP:=grown_putL (B:=w.heap.size) VS 0 w3 G3 (Nat.le_refl _)
 have BP:=RB.put (k:=0) VS b3 (Ne.symm hne)
 have VP:TxB (w.heap.size+1) (putL w3 w.heap.size 0 VS) (.slice va l.length vcap) l:=hV.kept (kept_putL VS 0 w3) (by omega)
 subst hVS
 go_wp2_with fail
 exact bodyPost_ret (v:=.agg #[.int .i64 x0,.int .i64 y0,.int .i64 y1,.string ⟨y2.toArray⟩,.string ⟨y3.toArray⟩,.slice va l.length vcap]) (results_row1 Tryz.results114 _ _ w.heap.size 66 _ (0,0) _ rfl SP Tryz.underlying66 rfl size_pf14) rfl (Rd.yes (pair_yes d1 (pair_yes d2 d3)) GP ⟨(x0,(y0,y1,y2,y3),.slice va l.length vcap),rfl,rfl,rfl,VP⟩ BP)
theorem flat_few14 {α:Type} (f:α→List UInt8) (c:Nat) (l:List α) (h:∀ x∈l,(f x).length≤c):(l.flatMap f).length≤l.length*c:=by
 induction l with
 | nil=>simp
 | cons x t ih =>
   rw [List.flatMap_cons,List.length_append,List.length_cons,Nat.add_mul]
   have:=h x (List.mem_cons_self ..)
   have:=ih (fun y hy=>h y (List.mem_cons_of_mem _ hy))
   omega
theorem row_few14 (ss:List (List UInt8)) (h:ss.length≤12) (h2:∀ t∈ss,t.length=32):(Lm.lenL ss.length++Lm.body ss).length≤1000000:=by
 rw [List.length_append]
 have h3:=Lm.body_length ss (fun t ht=>by rw [h2 t ht];omega)
 have h4:=Lm.lenL_le ss.length
 have h5:ss.length*65538≤12*65538:=Nat.mul_le_mul_right _ h
 omega
theorem nb14_len (n:Int):(nb14 n).length≤9:=by
 unfold nb14
 rw [Lm.numL_length]
 have:=Lm.cnt_le n.toNat
 omega
theorem txtE_len14 (t:List UInt8):(txtE t).length≤t.length+3:=by
 unfold txtE Lm.lenL
 rw [List.length_append]
 split<;>simp<;>omega
theorem bytC_few14 (c:Ct) (hc:mayC c):(bytC c).length≤1000000000:=by
 obtain ⟨⟨h1,h2,h3,h4,h5⟩,⟨⟨v1,v2,v3,v4,v5⟩,v6,v7⟩,h8,h9⟩:=hc
 have e1:=flat_few14 nb14 9 c.2.2.2.2.2.1.2.2.1 (fun x _=>nb14_len x)
 have e2:=flat_few14 edY 45 c.2.2.2.2.2.1.2.2.2.2 (fun x _=>by
  unfold edY
  simp only [List.length_append]
  have:=nb14_len x.1
  have:=nb14_len x.2.1
  have:=nb14_len x.2.2.1
  have:=nb14_len x.2.2.2.1
  have:=nb14_len x.2.2.2.2
  omega)
 have e3:=flat_few14 pfY 2000000 c.2.2.2.2.2.2 (fun x hx=>by
  obtain ⟨⟨_,q1⟩,q2,q3⟩:=h9 x hx
  have b1:=(bytE_len x.2.1 q1).1
  have b2:=txtE_len14 (bytE x.2.1)
  have b3:=row_few14 x.2.2 q2 q3
  have b4:=nb14_len x.1
  unfold pfY
  rw [List.length_append,List.length_append]
  omega)
 unfold bytC
 simp only [List.length_append]
 have t1:=txtE_len14 c.1
 have t2:=txtE_len14 c.2.2.1
 have t3:=txtE_len14 c.2.2.2.1
 have p1:c.2.2.2.2.2.1.2.2.1.length*9≤32*9:=Nat.mul_le_mul_right _ v2
 have p2:c.2.2.2.2.2.1.2.2.2.2.length*45≤128*45:=Nat.mul_le_mul_right _ v5
 have p3:c.2.2.2.2.2.2.length*2000000≤256*2000000:=Nat.mul_le_mul_right _ h8
 have n1:=nb14_len c.2.1
 have n2:=nb14_len c.2.2.2.2.1
 have n3:=nb14_len c.2.2.2.2.2.1.1
 have n4:=nb14_len (if c.2.2.2.2.2.1.2.1=true then 1 else 0)
 have n5:=nb14_len (c.2.2.2.2.2.1.2.2.1.length:Int)
 have n6:=nb14_len c.2.2.2.2.2.1.2.2.2.1.1
 have n7:=nb14_len c.2.2.2.2.2.1.2.2.2.1.2.1
 have n8:=nb14_len c.2.2.2.2.2.1.2.2.2.1.2.2
 have n9:=nb14_len (c.2.2.2.2.2.1.2.2.2.2.length:Int)
 have n10:=nb14_len (c.2.2.2.2.2.2.length:Int)
 omega
abbrev WB (B b:Nat) (l:List UInt8) (W:World):Prop:=Lib.IsBuilder TW 5 B b (Lib.byteCells l) W
def WrRes (w:World) (B b:Nat) (l:List UInt8) (e:Ending) (w':World):Prop:=e=.returned (.tuple #[])∧WB B b l w'∧FrW B b w w'
theorem saf_block {B b x:Nat} {w wr:World} (hS:x < B∨ApW b w x) (k:FrW B b w wr):wr.heap[x]?=w.heap[x]?:=by
 rcases hS with h | h
 ·exact k.bel.block x h
 ·exact (h.later k).2
set_option maxHeartbeats 2000000 in
theorem pnums14 (B b:Nat) (l:List UInt8) (L:List Int) (v:Value) (w:World) (hW:WB B b l w) (hT:IsInts w v L) (hS:∀ x,0 < L.length→v.ownBlock=some x→x < B∨ApW b w x) (hB:B≤w.heap.size) (hL:∀ n∈L,0≤n∧n≤9223372036854775807) (hlen:l.length+9*L.length≤140737488355328) :
 Calls Tryz.prog 104 #[.pointer (some ⟨b,0,none⟩),v] w fun e w'=>WrRes w B b (l++L.flatMap nb14) e w':=by
 obtain ⟨a,cap,rfl,h1,h2,h3,HC⟩:=hT.some_at
 obtain ⟨n,hn⟩:∃ n,L.length=n:=⟨_,rfl⟩
 have HN:Hid (L.length=n):=hn
 rw [hn] at h1 h3 hlen ⊢
 clear hn hT
 have HW0:Hid (WB B b (l++(L.take 0).flatMap nb14) w):=by show WB _ _ _ _;simpa using hW
 go_enter Tryz.func104,Tryz.ntmps104
 go_wp2_with fail
 go_loopw [8] (fun i wr=>∃ (k:Nat),k≤n∧i=.int .i64 k∧Hid (WB B b (l++(L.take k).flatMap nb14) wr)∧Hid (FrW B b w wr)) (fun i _=>n - (RowKit.intOf i).toNat)
 case atStart=>exact ⟨0,Nat.zero_le _,rfl,HW0,FrW.refl _ _ _⟩
 case round =>
  obtain ⟨k,hk,rfl,HWk,HF⟩:=hrel
  by_cases hlt:k < n
  ·have hk1:k < L.length:=by have:=HN.out;omega
   obtain ⟨bb,off,rfl,hblt,hcell⟩:=HC.out k hk1
   have q0:wr.cell? ⟨bb,off+k,none⟩=some (.int .i64 L[k]):=by
    rw [World.cell?_of_block (a:=⟨bb,off+k,none⟩) (saf_block (hS bb (by omega) rfl) HF.out)]
    have:=hcell 0 _ rfl
    simpa using this
   have hy0:=hL L[k] (List.getElem_mem hk1)
   have HX:Hid ((L.take (k+1)).flatMap nb14=(L.take k).flatMap nb14++nb14 L[k]):=by show _=_;rw [List.take_succ_eq_append_getElem hk1,List.flatMap_append];simp
   have hml:=flat_few14 nb14 9 (L.take k) (fun x _=>nb14_len x)
   rw [List.length_take] at hml
   generalize L[k]=y at q0 hy0 HX
   obtain ⟨m,rfl⟩:∃ m:Nat,y=(m:Int):=⟨y.toNat,by omega⟩
   have hy1:m < 18446744073709551616:=by omega
   have hwm:IntKind.u64.wrap (m:Int)=(m:Int):=by rw [IntKind.wrap_u64];omega
   have hnb:nb14 (m:Int)=Lm.numL m:=by unfold nb14;rw [Int.toNat_natCast]
   have hnl:=num_len m
   have hBr:B≤wr.heap.size:=Nat.le_trans hB HF.out.bel.size
   clear hcell hy0
   go_wp2_with fail
   refine wp_region_any (by kernel_rfl) ?_
   change wpAny _ _ _ _ _ _ _ (World.drew _)
   refine wpAny_take (i:=0) (v:=.pointer (some ⟨b,0,none⟩)) rfl (by kernel_rfl) (by kernel_rfl) (by kernel_rfl) (fun _ _ _ h=>h) (Or.inl ⟨by kernel_rfl,fun w=>by go_simp⟩) ?_
   refine wpAny_take (i:=1) (v:=.pointer (some ⟨b,0,none⟩)) rfl (by kernel_rfl) (by kernel_rfl) (by kernel_rfl) (fun _ _ _ h=>h) (Or.inl ⟨by kernel_rfl,fun w=>by go_simp⟩) ?_
   refine wpAny_take (i:=2) (v:=.pointer (some ⟨b,0,none⟩)) rfl (by kernel_rfl) (by kernel_rfl) (by kernel_rfl) (fun _ _ _ h=>h) (Or.inl ⟨by kernel_rfl,fun w=>by go_simp⟩) ?_
   refine wpAny_take (i:=3) (v:=.int .i64 m) rfl (by kernel_rfl) (by kernel_rfl) (by kernel_rfl) (fun _ _ _ h=>h) (Or.inl ⟨by kernel_rfl,fun w=>by go_simp⟩) ?_
   refine wpAny_take (i:=4) (v:=.int .u64 m) rfl (by kernel_rfl) (by kernel_rfl) (by kernel_rfl) (fun _ _ _ h=>h) (Or.inl ⟨by kernel_rfl,fun w=>by go_simp⟩) ?_
   refine any_seqI [5,6] [_,_] _ _ _ rfl (by kernel_rfl) ?_
   go_wp2_with fail
   refine (num_any m hy1 _).mono ?_
   rintro e w2 ⟨rfl,b2⟩
   have HW2:Hid (WB B b (l++(L.take k).flatMap nb14) w2):=bldW_below (w:=wr.drew) (by have:=HWk.out;exact this) b2
   have HF2:Hid (FrW B b w w2):=HF.out.trans (FrW.below (W:=wr) (W':=w2) ((Below.drew (Below.refl _ _)).trans b2) hBr)
   go_wp2_with fail
   refine (writeW B b _ (Lm.numL m) _ HW2.out (by rw [List.length_append];omega) (Nat.le_trans hBr b2.size)).mono ?_
   rintro e w3 ⟨rfl,c3,f3⟩
   have HW3:Hid (WB B b (l++(L.take (k+1)).flatMap nb14) w3):=by show WB _ _ _ _;rw [HX.out,hnb,← List.append_assoc];exact c3
   have HF3:Hid (FrW B b w w3):=HF2.out.trans f3
   clear c3 f3
   go_wp2_with fail
   go_roundw
   case rel=>exact ⟨k+1,by omega,by first | go_num | simp,HW3,HF3⟩
   case measure=>simp [RowKit.intOf];omega
  ·obtain rfl:k=n:=by omega
   have HE:Hid (WB B b (l++L.flatMap nb14) wr):=by have:=HWk.out;rw [List.take_of_length_le (by have:=HN.out;omega)] at this;exact this
   go_wp2_with fail
   go_end0
   exact ⟨rfl,HE.out,HF.out⟩
theorem pnumsL14 (B b:Nat) (l:List UInt8) (L:List Int) (w:World) (hW:WB B b l w) (hB:B≤w.heap.size) (hL:∀ n∈L,0≤n∧n≤9223372036854775807) (hlen:l.length+9*L.length≤140737488355328) (hn:L.length≤140737488351232) :
 Calls Tryz.prog 104 #[.pointer (some ⟨b,0,none⟩),.slice (some ⟨w.heap.size,0,none⟩) L.length L.length] (w.alloc (.cells (recV intV L).toArray 3)) fun e w'=>WrRes w B b (l++L.flatMap nb14) e w':=by
 have al:Below w.heap.size w (w.alloc (.cells (recV intV L).toArray 3)):=(Below.refl _ w).alloc (Nat.le_refl _) _
 have X:=SBox.new w 3 (recV intV L).toArray
 have hlt:=(bldW_lt hW).2
 have hT:IsInts (w.alloc (.cells (recV intV L).toArray 3)) (.slice (some ⟨w.heap.size,0,none⟩) L.length L.length) L:=by
  refine ⟨_,_,_,rfl,rfl,Nat.le_refl _,by omega,hn,.inr ⟨w.heap.size,0,rfl,X.lt,fun i hi j u hu=>?_⟩⟩
  have hj:j < 1:=(List.getElem?_eq_some_iff.1 hu).1
  obtain rfl:j=0:=by omega
  have g:=recV_get intV_len L i hi 0 (by omega)
  refine X.cell (0+i*1+0) u ?_
  rw [show 0+i*1+0=i*1+0 by omega]
  rw [hu] at g
  rw [List.getElem?_toArray]
  exact g
 refine (pnums14 B b l L _ _ (bldW_below hW al) hT (fun x _ hx=>.inr ?_) (by simp;omega) hL hlen).mono ?_
 ·have e:x=w.heap.size:=by simpa [Value.ownBlock,eq_comm] using hx
  rw [e]
  exact ApW.cells X (by omega) (by decide)
 ·rintro e w' ⟨h1,h2,h3⟩
  exact ⟨h1,h2,(FrW.below al hB).trans h3⟩
theorem pnumsL14_1 (B b:Nat) (l:List UInt8) (x0:Int) (w:World) (g:Nat) (hg:g=w.heap.size) (hW:WB B b l w) (hB:B≤w.heap.size) (h0:0≤x0∧x0≤9223372036854775807) (hlen:l.length≤140737488000000) :
 Calls Tryz.prog 104 #[.pointer (some ⟨b,0,none⟩),.slice (some ⟨g,0,none⟩) 1 1] (w.alloc (.cells #[.int .i64 x0] 3)) fun e w'=>WrRes w B b (l++[x0].flatMap nb14) e w':=by
 subst hg
 exact pnumsL14 B b l [x0] w hW hB (by intro n hn;simp at hn;rcases hn with rfl<;>assumption) (by simp;omega) (by simp)
theorem pnumsL14_3 (B b:Nat) (l:List UInt8) (x0 x1 x2:Int) (w:World) (g:Nat) (hg:g=w.heap.size) (hW:WB B b l w) (hB:B≤w.heap.size) (h0:0≤x0∧x0≤9223372036854775807) (h1:0≤x1∧x1≤9223372036854775807) (h2:0≤x2∧x2≤9223372036854775807) (hlen:l.length≤140737488000000) :
 Calls Tryz.prog 104 #[.pointer (some ⟨b,0,none⟩),.slice (some ⟨g,0,none⟩) 3 3] (w.alloc (.cells #[.int .i64 x0,.int .i64 x1,.int .i64 x2] 3)) fun e w'=>WrRes w B b (l++[x0,x1,x2].flatMap nb14) e w':=by
 subst hg
 exact pnumsL14 B b l [x0,x1,x2] w hW hB (by intro n hn;simp at hn;rcases hn with rfl | rfl | rfl<;>assumption) (by simp;omega) (by simp)
theorem pnumsL14_4 (B b:Nat) (l:List UInt8) (x0 x1 x2 x3:Int) (w:World) (g:Nat) (hg:g=w.heap.size) (hW:WB B b l w) (hB:B≤w.heap.size) (h0:0≤x0∧x0≤9223372036854775807) (h1:0≤x1∧x1≤9223372036854775807) (h2:0≤x2∧x2≤9223372036854775807) (h3:0≤x3∧x3≤9223372036854775807) (hlen:l.length≤140737488000000) :
 Calls Tryz.prog 104 #[.pointer (some ⟨b,0,none⟩),.slice (some ⟨g,0,none⟩) 4 4] (w.alloc (.cells #[.int .i64 x0,.int .i64 x1,.int .i64 x2,.int .i64 x3] 3)) fun e w'=>WrRes w B b (l++[x0,x1,x2,x3].flatMap nb14) e w':=by
 subst hg
 exact pnumsL14 B b l [x0,x1,x2,x3] w hW hB (by intro n hn;simp at hn;rcases hn with rfl | rfl | rfl | rfl<;>assumption) (by simp;omega) (by simp)
theorem pnumsL14_5 (B b:Nat) (l:List UInt8) (x0 x1 x2 x3 x4:Int) (w:World) (g:Nat) (hg:g=w.heap.size) (hW:WB B b l w) (hB:B≤w.heap.size) (h0:0≤x0∧x0≤9223372036854775807) (h1:0≤x1∧x1≤9223372036854775807) (h2:0≤x2∧x2≤9223372036854775807) (h3:0≤x3∧x3≤9223372036854775807) (h4:0≤x4∧x4≤9223372036854775807) (hlen:l.length≤140737488000000) :
 Calls Tryz.prog 104 #[.pointer (some ⟨b,0,none⟩),.slice (some ⟨g,0,none⟩) 5 5] (w.alloc (.cells #[.int .i64 x0,.int .i64 x1,.int .i64 x2,.int .i64 x3,.int .i64 x4] 3)) fun e w'=>WrRes w B b (l++[x0,x1,x2,x3,x4].flatMap nb14) e w':=by
 subst hg
 exact pnumsL14 B b l [x0,x1,x2,x3,x4] w hW hB (by intro n hn;simp at hn;rcases hn with rfl | rfl | rfl | rfl | rfl<;>assumption) (by simp;omega) (by simp)
set_option maxHeartbeats 2000000 in
theorem ptextw14 (B b:Nat) (l t:List UInt8) (w:World) (hW:WB B b l w) (hB:B≤w.heap.size) (ht:t.length≤65535) (hlen:l.length≤140737488000000) :
 Calls Tryz.prog 103 #[.pointer (some ⟨b,0,none⟩),.string ⟨t.toArray⟩] w fun e w'=>WrRes w B b (l++txtE t) e w':=by
 have htl:=txtE_len14 t
 go_enter Tryz.func103,Tryz.ntmps103
 go_wp2_with fail
 refine (text_ok t (by omega) w).mono ?_
 rintro e w1 ⟨rfl,b1⟩
 have W1:=bldW_below hW b1
 go_wp2_with fail
 refine (writeW B b l (txtE t) w1 W1 (by omega) (Nat.le_trans hB b1.size)).mono ?_
 rintro e w2 ⟨rfl,W2,f2⟩
 go_wp2_with fail
 go_end0
 exact ⟨rfl,W2,(FrW.below b1 hB).trans f2⟩
set_option maxHeartbeats 2000000 in
theorem pproofw14 (B b:Nat) (l:List UInt8) (p0 y0 y1:Int) (y2 y3:List UInt8) (ua:Option Addr) (uc:Nat) (ss:List (List UInt8)) (w0 w:World) (hS:IsTxt w0 (.slice ua ss.length uc) ss) (h0:Below w0.heap.size w0 w) (hW:WB B b l w) (hB:B=w0.heap.size) (hm:pfM (p0,(y0,y1,y2,y3),ss)) (hlen:l.length≤1000000000) :
 Calls Tryz.prog 106 #[.pointer (some ⟨b,0,none⟩),.agg #[.int .i64 p0,.int .i64 y0,.int .i64 y1,.string ⟨y2.toArray⟩,.string ⟨y3.toArray⟩,.slice ua ss.length uc]] w fun e w'=>WrRes w B b (l++pfY (p0,(y0,y1,y2,y3),ss)) e w':=by
 have hlt:=(bldW_lt hW).2
 have hBw:B≤w.heap.size:=by rw [hB];exact h0.size
 have m1:0≤p0∧p0≤255:=hm.1.1
 have m2:mayE (y0,y1,y2,y3):=hm.1.2
 have m3:ss.length≤12:=hm.2.1
 have m4:∀ t∈ss,t.length=32:=hm.2.2
 have k1:=(bytE_len (y0,y1,y2,y3) m2).1
 have k2:=txtE_len14 (bytE (y0,y1,y2,y3))
 have k3:=row_few14 ss m3 m4
 have k4:=nb14_len p0
 have hE:∀ W,Calls Tryz.prog 80 #[.agg #[.int .i64 y0,.int .i64 y1,.string ⟨y2.toArray⟩,.string ⟨y3.toArray⟩]] W fun e w'=>e=.returned (.tuple #[.string ⟨(bytE (y0,y1,y2,y3)).toArray⟩,.int .i64 0])∧Below W.heap.size W w':=fun W=>by
  have:=pbytes6_any y0 y1 y2 y3 W
  unfold bytesE at this
  rw [if_pos m2] at this
  exact this
 have HY:Hid (pfY (p0,(y0,y1,y2,y3),ss)=[p0].flatMap nb14++txtE (bytE (y0,y1,y2,y3))++(Lm.lenL ss.length++Lm.body ss)):=by show _=_;unfold pfY;simp
 have HOK:Hid (Lm.rowOk ss=true):=by show _=_;rw [Lm.rowOk_iff];exact ⟨by omega,fun t ht=>by have:=m4 t ht;omega⟩
 have HRW:Hid (∀ W,Below w0.heap.size w0 W→Calls Tryz.prog 175 #[.slice ua ss.length uc] W fun e w'=>e=.returned (.tuple #[.string ⟨(Lm.lenL ss.length++Lm.body ss).toArray⟩,.int .i64 0])∧Below W.heap.size W w'):=fun W hWb=>row_good ua ss.length uc ss W (by
  obtain ⟨a,n,c,hv,e1,e2,e3,e4,e5,e6⟩:=hS.below hWb
  obtain ⟨rfl,rfl,rfl⟩:a=ua∧n=ss.length∧c=uc:=by simpa [eq_comm] using hv
  exact ⟨rfl,fun t ht=>by have:=m4 t ht;omega,by omega,e6⟩) HOK.out
 clear m2 hm
 generalize bytE (y0,y1,y2,y3)=EB at *
 generalize hROW:Lm.lenL ss.length++Lm.body ss=ROW at *
 clear hROW
 have X0:=SBox.new w 66 #[.int .i64 p0,.int .i64 y0,.int .i64 y1,.string ⟨y2.toArray⟩,.string ⟨y3.toArray⟩,.slice ua ss.length uc]
 have al:Below w.heap.size w (w.alloc (.cells #[.int .i64 p0,.int .i64 y0,.int .i64 y1,.string ⟨y2.toArray⟩,.string ⟨y3.toArray⟩,.slice ua ss.length uc] 66)):=(Below.refl _ w).alloc (Nat.le_refl _) _
 have W0:=bldW_below hW al
 have F0:FrW B b w _:=FrW.below al hBw
 have P0:ApW b _ w.heap.size:=ApW.cells X0 (by omega) (by decide)
 have c0:(w.alloc (.cells #[.int .i64 p0,.int .i64 y0,.int .i64 y1,.string ⟨y2.toArray⟩,.string ⟨y3.toArray⟩,.slice ua ss.length uc] 66)).cell? ⟨w.heap.size,0,none⟩=some (.int .i64 p0):=X0.cell 0 _ rfl
 go_enter Tryz.func106,Tryz.ntmps106
 go_wp2_with fail
 refine (pnumsL14_1 B b l p0 _ _ (by simp) W0 (by simp;omega) (by omega) (by omega)).mono ?_
 rintro e w1 ⟨rfl,W1,f1⟩
 obtain ⟨P1,e1⟩:=P0.later f1
 have X1:SBox w1 w.heap.size _ _:=e1.trans X0
 have F1:=F0.trans f1
 have c1:w1.cell? ⟨w.heap.size,1,none⟩=some (.int .i64 y0):=X1.cell 1 _ rfl
 have c2:w1.cell? ⟨w.heap.size,2,none⟩=some (.int .i64 y1):=X1.cell 2 _ rfl
 have c3:w1.cell? ⟨w.heap.size,3,none⟩=some (.string ⟨y2.toArray⟩):=X1.cell 3 _ rfl
 have c4:w1.cell? ⟨w.heap.size,4,none⟩=some (.string ⟨y3.toArray⟩):=X1.cell 4 _ rfl
 clear W0 F0 P0 c0 e1 X0 f1
 go_wp2_with fail
 refine (hE _).mono ?_
 rintro e w2 ⟨rfl,b2⟩
 have W2:=bldW_below W1 b2
 have F2:=F1.andBelow b2 (Nat.le_trans hBw F1.bel.size)
 have f2:FrW B b w1 w2:=FrW.below b2 (Nat.le_trans hBw F1.bel.size)
 obtain ⟨P2,e2⟩:=P1.later f2
 have X2:SBox w2 w.heap.size _ _:=e2.trans X1
 clear W1 F1 P1 c1 c2 c3 c4 e2 X1 f2 b2
 go_wp2_with fail
 refine (ptextw14 B b _ EB w2 W2 (Nat.le_trans hBw F2.bel.size) (by omega) (by simp;omega)).mono ?_
 rintro e w3 ⟨rfl,W3,f3⟩
 obtain ⟨P3,e3⟩:=P2.later f3
 have X3:SBox w3 w.heap.size _ _:=e3.trans X2
 have F3:=F2.trans f3
 have c5:w3.cell? ⟨w.heap.size,5,none⟩=some (.slice ua ss.length uc):=X3.cell 5 _ rfl
 clear W2 F2 P2 e3 X2 f3
 go_wp2_with fail
 refine (HRW.out _ (h0.trans (hB ▸ F3.bel))).mono ?_
 rintro e w4 ⟨rfl,b4⟩
 have W4:=bldW_below W3 b4
 have F4:=F3.andBelow b4 (Nat.le_trans hBw F3.bel.size)
 clear W3 F3 c5 X3 b4
 go_wp2_with fail
 refine (writeW B b _ ROW w4 W4 (by simp;omega) (Nat.le_trans hBw F4.bel.size)).mono ?_
 rintro e w5 ⟨rfl,W5,f5⟩
 go_wp2_with fail
 go_end0
 refine ⟨rfl,?_,F4.trans f5⟩
 rw [HY.out]
 have e9:l++([p0].flatMap nb14++txtE EB++ROW)=l++[p0].flatMap nb14++txtE EB++ROW:=by simp only [List.append_assoc]
 rw [e9]
 exact W5
end Go.Proofs.YtkkenfhlgpjmjaaGreatDoor
