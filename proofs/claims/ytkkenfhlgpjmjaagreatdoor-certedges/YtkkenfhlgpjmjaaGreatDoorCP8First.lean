/-
  What history.first answers for its two predicates; Writer, written.
-/
import Derived.Test.YtkkenfhlgpjmjaaGreatDoorCL0c
namespace Go.Proofs.YtkkenfhlgpjmjaaGreatDoor
set_option maxRecDepth 100000
open Go.RowKit Go.Shelf
set_option linter.unusedVariables false
attribute [local go_sem] Oper.semAt_some ba_size
theorem results_cell1 {fn:Func} {P:Program} {p:Tmp} {t1:TypeId} (h:fn.results=#[.cell p t1]) (tmps:Array Value) (w:World) (v:Value)
 (hv:((asAddr (tmps.getD p undef)).run P w).andThen (fun a w₁=>((loadVar t1 a).run P w₁))=Result.ok v w) :
 (results fn tmps).run P w=.ok v w:=by
 rw [← hv]
 simp only [results,h]
 simp [Sem.run_bind,Result.andThen]
structure FStW (w:World) (bk bv:Nat) (sl:Value) (W:World):Prop where
 below:Below w.heap.size w W
 size:w.heap.size+1+1+1≤W.heap.size
 bs:Boxed W (w.heap.size) 127 ((.func (.func 230) #[] #[.pointer (some ⟨bk,0,none⟩),.pointer (some ⟨bv,0,none⟩)]))
 r:Boxed W (w.heap.size+1) 3 (.int .i64 0)
 be:Boxed W (w.heap.size+1+1) 22 (sl)
theorem FStW.bel {w:World} {bk bv:Nat} {sl:Value} {W W':World} (h:FStW w bk bv sl W) (hb:Below (w.heap.size+1+1+1) W W'):FStW w bk bv sl W' :=
 ⟨h.below.trans (hb.mono (by omega)),Nat.le_trans h.size hb.size,boxed_bel h.bs hb (by omega),boxed_bel h.r hb (by omega),boxed_bel h.be hb (by omega)⟩
def FInvW (w:World) (bk bv:Nat) (sl:Value) (h:List Ev) (p:Nat→Bool) (pre:List (Fin h.length)) (W:World):Prop :=
 FStW w bk bv sl W∧(pre <+: List.finRange h.length→∀ j,j < pre.length→p j=false)
def FOutW (w:World) (h:List Ev) (p:Nat→Bool) (c:Code) (pre:List (Fin h.length)) (W:World):Prop :=
 c=.ret∧w.heap.size+1+1+1≤W.heap.size∧Below w.heap.size w W∧∃ i:Nat,Boxed W (w.heap.size+1) 3 (.int .i64 (i:Int))∧(pre <+: List.finRange h.length→fi p h.length=some i)
set_option maxHeartbeats 2000000 in
theorem pfirstW_any (h:List Ev) (v:Value) (w:World) (hT:IsEvs w v h) (key val:List UInt8) (bk bv:Nat) (Kbk:Boxed w bk 9 (.string ⟨key.toArray⟩)) (Kbv:Boxed w bv 9 (.string ⟨val.toArray⟩)) :
 Calls Tryz.prog 229 #[v,(.func (.func 230) #[] #[.pointer (some ⟨bk,0,none⟩),.pointer (some ⟨bv,0,none⟩)])] w fun e w'=>e=.returned (.int .i64 (oI (fi (fun k=>decide ((ev h k).1=3∧(ev h k).2.2.1=key∧(ev h k).2.2.2=val)) h.length)))∧Below w.heap.size w w':=by
 have hT0:=hT
 obtain ⟨a,cap,rfl,h1,h2,h3,HC⟩:=hT.some_at
 clear HC hT
 obtain ⟨p,hp0⟩:∃ p,(fun k=>decide ((ev h k).1=3∧(ev h k).2.2.1=key∧(ev h k).2.2.2=val))=p:=⟨_,rfl⟩
 have HP:Hid (∀ k,p k=decide ((ev h k).1=3∧(ev h k).2.2.1=key∧(ev h k).2.2.2=val)):=fun k=>by rw [← hp0]
 rw [hp0]
 clear hp0
 refine (callsIn_wide (n:=3)).1 ?_
 refine callsIn_of_wp_marks Tryz.func229 rfl trivial ?_ rfl
 simp only [Tryz.ntmps229,List.size_toArray,List.length_cons,List.length_nil,Nat.reduceAdd,Nat.reduceSub,Array.replicate_succ,Array.replicate_zero,List.push_toArray,List.append_toArray,List.nil_append,List.cons_append]
 gi_wp2_with ((try refine ⟨trivial,?_⟩);gi_at_call 135;refine (callsIn_wide.2 (pevents8_any _ _ _ _)).mono ?_;rintro e w2 ⟨rfl,rfl⟩)
 have hS0:FStW w bk bv (.slice a h.length cap) (((w.alloc (.cells #[(.func (.func 230) #[] #[.pointer (some ⟨bk,0,none⟩),.pointer (some ⟨bv,0,none⟩)])] 127)).alloc (.cells #[.int .i64 0] 3)).alloc (.cells #[.slice a h.length cap] 22)):=by
  have b0:=(((Boxed.new w 127 ((.func (.func 230) #[] #[.pointer (some ⟨bk,0,none⟩),.pointer (some ⟨bv,0,none⟩)]))).alloc (.cells #[.int .i64 0] 3)).alloc (.cells #[.slice a h.length cap] 22))
  have b1:=((Boxed.new (w.alloc (.cells #[(.func (.func 230) #[] #[.pointer (some ⟨bk,0,none⟩),.pointer (some ⟨bv,0,none⟩)])] 127)) 3 (.int .i64 0)).alloc (.cells #[.slice a h.length cap] 22))
  have b2:=(Boxed.new ((w.alloc (.cells #[(.func (.func 230) #[] #[.pointer (some ⟨bk,0,none⟩),.pointer (some ⟨bv,0,none⟩)])] 127)).alloc (.cells #[.int .i64 0] 3)) 22 (.slice a h.length cap))
  (try simp only [World.size_alloc] at b0 b1 b2)
  exact ⟨((((Below.refl _ w).alloc (by first | exact Nat.le_refl _ | (simp only [World.size_alloc];omega)) _).alloc (by first | exact Nat.le_refl _ | (simp only [World.size_alloc];omega)) _).alloc (by first | exact Nat.le_refl _ | (simp only [World.size_alloc];omega)) _),(by simp),b0,b1,b2⟩
 obtain ⟨W0,hW0⟩:∃ W0,(((w.alloc (.cells #[(.func (.func 230) #[] #[.pointer (some ⟨bk,0,none⟩),.pointer (some ⟨bv,0,none⟩)])] 127)).alloc (.cells #[.int .i64 0] 3)).alloc (.cells #[.slice a h.length cap] 22))=W0:=⟨_,rfl⟩
 have sW0:W0.heap.size=w.heap.size+1+1+1:=by rw [← hW0];simp
 change Code.wpIn _ _ _ _ _ _ (((w.alloc (.cells #[(.func (.func 230) #[] #[.pointer (some ⟨bk,0,none⟩),.pointer (some ⟨bv,0,none⟩)])] 127)).alloc (.cells #[.int .i64 0] 3)).alloc (.cells #[.slice a h.length cap] 22))
 rw [hW0] at hS0 ⊢
 clear hW0
 refine wpIn_rangeFunc_ownH rfl (by omega) (gf:=192) (lb:=#[.pointer (some ⟨w.heap.size+1+1,0,none⟩)]) rfl trivial (enters_of Tryz.func192 (by kernel_rfl) rfl)
  (events8_stops h w a cap hT0 (w.heap.size+1+1) (3 - 1) W0 hS0.below hS0.be) (fun h k=>kpE_t h k) (kpE_b (by omega) (by omega)) (Below.refl _ _) (fun _=>rfl)
  (FInvW w bk bv (.slice a h.length cap) h p) (FOutW w h p)
  (ownFrom_of_below (fun _ W ⟨h1,_⟩=>by rw [sW0];exact h1.size) (fun _ W W' ⟨h1,h2⟩ hb=>⟨h1.bel (by rw [sW0] at hb;exact hb),h2⟩))
  (fun c=>ownFrom_of_below (fun _ W ⟨h1,h2,h3⟩=>by rw [sW0];exact h2) (fun _ W W' ⟨h1,h2,h3,i,h4,h5⟩ hb=>by
   rw [sW0] at hb
   exact ⟨h1,Nat.le_trans h2 hb.size,h3.trans (hb.mono (by omega)),i,boxed_bel h4 hb (by omega),h5⟩))
  ⟨hS0,fun _ j hj=>by simp at hj⟩
  (fun x a' W=>∃ Bx,w.heap.size+1+1 < Bx∧SBox W Bx 64 #[.int .i64 h[x.val].1,.int .i64 h[x.val].2.1,.string ⟨h[x.val].2.2.1.toArray⟩,.string ⟨h[x.val].2.2.2.toArray⟩]∧a'={ tmps:=#[.slice a h.length cap,(.func (.func 230) #[] #[.pointer (some ⟨bk,0,none⟩),.pointer (some ⟨bv,0,none⟩)]),undef,.pointer (some ⟨w.heap.size,0,none⟩),.pointer (some ⟨w.heap.size+1,0,none⟩),.int .i64 (x.val:Int),.pointer (some ⟨Bx,0,none⟩),.slice a h.length cap,eventsF8 (w.heap.size+1+1),.int .i64 (x.val:Int),evW h[x.val],undef,undef,undef,undef],defers:=[] })
  (fun x a' _ A B row hs hg hr=>by
   obtain ⟨Bx,h1,h2,h4⟩:=hs
   exact ⟨Bx,h1,block_kept h2 hg (fun r e=>(hr r e).2),h4⟩)
  ?assign ?body ?done ?stop
 case assign =>
  rintro l pre x W K ⟨hS,hp⟩ hK
  have hsz:=hS.size
  gi_wp2
  refine hK _ _ ((KeepsOthers.alloc _ _).from _) ⟨(Below.refl _ W).alloc (by omega) _,Below.heap_alloc W _ _ (by omega)⟩ ⟨hS.bel ((Below.refl _ W).alloc hsz _),hp⟩ ⟨W.heap.size,by omega,SBox.new W _ _,rfl⟩
 case body =>
  rintro l pre x a' W hl hrec ⟨hS,hp⟩ ⟨Bx,hBx,hblk,rfl⟩ hlt
  have HW0:Hid (W0.heap.size=w.heap.size+1+1+1):=sW0
  clear sW0 hS0 hl hrec
  have hsz:=hS.size
  have hxn:=x.isLt
  obtain ⟨⟨y0,y1,y2,y3⟩,hy⟩:∃ y,h[x.val]=y:=⟨_,rfl⟩
  have HY:Hid (h[x.val]=(y0,y1,y2,y3)):=hy
  rw [hy] at hblk ⊢
  simp only at hblk
  clear hy
  have q0:=hblk.cell 0 _ rfl
  have q1:=hblk.cell 1 _ rfl
  have q2:=hblk.cell 2 _ rfl
  have q3:=hblk.cell 3 _ rfl
  obtain ⟨i,hxi⟩:∃ i,x.val=i:=⟨_,rfl⟩
  have HI:Hid (x.val=i):=hxi
  rw [hxi] at hxn ⊢
  clear hxi
  have c0:=hS.bs.cell
  have C:=pwriter1_any y0 y1 y2 y3 key val bk bv W (boxed_bel Kbk hS.below Kbk.lt) (boxed_bel Kbv hS.below Kbv.lt)
  have b0:=Below.refl (w.heap.size+1+1+1) W
  by_cases hm:y0=3∧y2=key∧y3=val
  ·rw [decide_eq_true hm] at C
   have HM:Hid (pre <+: List.finRange h.length→x.val=pre.length→pre.length < h.length→fi p h.length=some i):=fun hp1 hp2 hp3=>(fi_some _ _ _).2 ⟨hxn,by
    have e:=HY.out
    rw [HP.out,ev_get h i hxn]
    simp only [HI.out] at e
    rw [e]
    exact decide_eq_true hm,fun j hj=>hp hp1 j (by have:=HI.out;omega)⟩
   clear hm
   gi_wp2_with ((try refine ⟨trivial,?_⟩);gi_at_call 230;refine (CallsIn.inRound l (callsIn_wide.2 C)).mono ?_;clear C;rintro e W1 ⟨rfl,b1⟩;refine Hid.out ?_)
   have s1:=b1.size
   have hS2:=hS.bel (b1.mono hsz)
   have f1:=hS2.r.cell
   have g1:=hS2.r.frozen
   have HF:Hid (KeepsFrom W0.heap.size W (W1.setCell ⟨w.heap.size+1,0,none⟩ (.int .i64 (i:Int)))∧FOutW w h p .ret (pre++[x]) (W1.setCell ⟨w.heap.size+1,0,none⟩ (.int .i64 (i:Int)))) :=
    ⟨((keeps_of_below b1).trans (KeepsOthers.setCell _ _ _)).from _,rfl,by simp;omega,hS2.below.setCell (p:=⟨w.heap.size+1,0,none⟩) (by simp) _,i,hS2.r.set _,fun hpre=>by
      obtain ⟨hp1,hp2,hp3⟩:=fin_prefix hpre
      exact HM.out hp1 hp2 hp3⟩
   clear hS hS2 hp HY HI HM
   refine Lib.hid ?_
   gi_wp2
   exact HF.out
  ·rw [decide_eq_false hm] at C
   have HM:Hid (x.val=pre.length→pre.length < h.length→p pre.length=false):=fun hp2 hp3=>by
    have e:=HY.out
    rw [HP.out,ev_get h _ hp3]
    simp only [hp2] at e
    rw [e]
    exact decide_eq_false hm
   clear hm
   gi_wp2_with ((try refine ⟨trivial,?_⟩);gi_at_call 230;refine (CallsIn.inRound l (callsIn_wide.2 C)).mono ?_;clear C;rintro e W1 ⟨rfl,b1⟩;refine Hid.out ?_)
   have s1:=b1.size
   have hS2:=hS.bel (b1.mono hsz)
   have HF:Hid (KeepsFrom W0.heap.size W W1∧KpE w.heap.size (w.heap.size+1+1) W W1∧FInvW w bk bv (.slice a h.length cap) h p (pre++[x]) W1) :=
    ⟨(keeps_of_below b1).from _,⟨b1.mono (by omega),b1.block _ (by omega)⟩,hS2,fun hpre j hj=>by
      obtain ⟨hp1,hp2,hp3⟩:=fin_prefix hpre
      rw [List.length_append,List.length_singleton] at hj
      exact upto_next p pre.length (hp hp1) (HM.out hp2 hp3) j hj⟩
   clear hS hS2 hp HY HI HM
   refine Lib.hid ?_
   gi_wp2
   exact HF.out
 case done =>
  rintro D ys W hD rfl ⟨hS,hp⟩ hK
  have HE:Hid (fi p h.length=none):=(fi_none _ _).2 (fun j hj=>hp (List.prefix_refl _) j (by rw [List.length_finRange];exact hj))
  have f1:=hS.r.cell
  have g1:=hS.r.frozen
  have HD:Hid (w.heap.size+1+1+1≤D):=by rw [sW0] at hD;exact hD
  clear sW0 hS0 hD hp
  gi_wp2
  have hK':=(KeepsOthers.setCell W ⟨w.heap.size+1,0,none⟩ (.int .i64 (-1))).same D _ hK rfl
  have B1:=hS.below.setCell (p:=⟨w.heap.size+1,0,none⟩) (by simp) (.int .i64 (-1))
  have R1:=hS.r.set (.int .i64 (-1))
  refine ⟨by simp,.inl ⟨_,_,rfl,run_takeDeferred hK',?_⟩⟩
  have d1:=cell_kept R1.cell (grownBy_putObj' _ D (.deferred none)) (fun r e=>by cases e;exact ⟨_,hK',rfl⟩)
  refine ⟨.int .i64 (-1),?_,by rw [HE.out];rfl,B1.trans (belowK_b (w:=w) (Nat.le_refl _) _ D _ _ (by have:=HD.out;omega) hK' rfl rfl)⟩
  refine results_cell1 rfl _ _ _ ?_
  simp [go_sem,d1]
 case stop =>
  rintro D c pre W hD hSp ⟨rfl,hs,hb,i,hr1,hbad⟩ hK
  have HE:Hid (fi p h.length=some i):=hbad hSp
  have HD:Hid (w.heap.size+1+1+1≤D):=by rw [sW0] at hD;exact hD
  clear sW0 hS0 hD hbad
  gi_wp2
  refine ⟨by simp,.inl ⟨_,_,rfl,run_takeDeferred hK,?_⟩⟩
  have d1:=cell_kept hr1.cell (grownBy_putObj' _ D (.deferred none)) (fun r e=>by cases e;exact ⟨_,hK,rfl⟩)
  refine ⟨.int .i64 (i:Int),?_,by rw [HE.out];rfl,hb.trans (belowK_b (w:=w) (Nat.le_refl _) _ D _ _ (by have:=HD.out;omega) hK rfl rfl)⟩
  refine results_cell1 rfl _ _ _ ?_
  simp [go_sem,d1]
structure FStV (w:World) (bv:Nat) (sl:Value) (W:World):Prop where
 below:Below w.heap.size w W
 size:w.heap.size+1+1+1≤W.heap.size
 bs:Boxed W (w.heap.size) 127 ((.func (.func 241) #[] #[.pointer (some ⟨bv,0,none⟩)]))
 r:Boxed W (w.heap.size+1) 3 (.int .i64 0)
 be:Boxed W (w.heap.size+1+1) 22 (sl)
theorem FStV.bel {w:World} {bv:Nat} {sl:Value} {W W':World} (h:FStV w bv sl W) (hb:Below (w.heap.size+1+1+1) W W'):FStV w bv sl W' :=
 ⟨h.below.trans (hb.mono (by omega)),Nat.le_trans h.size hb.size,boxed_bel h.bs hb (by omega),boxed_bel h.r hb (by omega),boxed_bel h.be hb (by omega)⟩
def FInvV (w:World) (bv:Nat) (sl:Value) (h:List Ev) (p:Nat→Bool) (pre:List (Fin h.length)) (W:World):Prop :=
 FStV w bv sl W∧(pre <+: List.finRange h.length→∀ j,j < pre.length→p j=false)
def FOutV (w:World) (h:List Ev) (p:Nat→Bool) (c:Code) (pre:List (Fin h.length)) (W:World):Prop :=
 c=.ret∧w.heap.size+1+1+1≤W.heap.size∧Below w.heap.size w W∧∃ i:Nat,Boxed W (w.heap.size+1) 3 (.int .i64 (i:Int))∧(pre <+: List.finRange h.length→fi p h.length=some i)
set_option maxHeartbeats 2000000 in
theorem pfirstV_any (h:List Ev) (v:Value) (w:World) (hT:IsEvs w v h) (val:List UInt8) (bv:Nat) (Kbv:Boxed w bv 9 (.string ⟨val.toArray⟩)) :
 Calls Tryz.prog 229 #[v,(.func (.func 241) #[] #[.pointer (some ⟨bv,0,none⟩)])] w fun e w'=>e=.returned (.int .i64 (oI (fi (fun k=>decide ((ev h k).1=3∧(ev h k).2.2.2=val)) h.length)))∧Below w.heap.size w w':=by
 have hT0:=hT
 obtain ⟨a,cap,rfl,h1,h2,h3,HC⟩:=hT.some_at
 clear HC hT
 obtain ⟨p,hp0⟩:∃ p,(fun k=>decide ((ev h k).1=3∧(ev h k).2.2.2=val))=p:=⟨_,rfl⟩
 have HP:Hid (∀ k,p k=decide ((ev h k).1=3∧(ev h k).2.2.2=val)):=fun k=>by rw [← hp0]
 rw [hp0]
 clear hp0
 refine (callsIn_wide (n:=3)).1 ?_
 refine callsIn_of_wp_marks Tryz.func229 rfl trivial ?_ rfl
 simp only [Tryz.ntmps229,List.size_toArray,List.length_cons,List.length_nil,Nat.reduceAdd,Nat.reduceSub,Array.replicate_succ,Array.replicate_zero,List.push_toArray,List.append_toArray,List.nil_append,List.cons_append]
 gi_wp2_with ((try refine ⟨trivial,?_⟩);gi_at_call 135;refine (callsIn_wide.2 (pevents8_any _ _ _ _)).mono ?_;rintro e w2 ⟨rfl,rfl⟩)
 have hS0:FStV w bv (.slice a h.length cap) (((w.alloc (.cells #[(.func (.func 241) #[] #[.pointer (some ⟨bv,0,none⟩)])] 127)).alloc (.cells #[.int .i64 0] 3)).alloc (.cells #[.slice a h.length cap] 22)):=by
  have b0:=(((Boxed.new w 127 ((.func (.func 241) #[] #[.pointer (some ⟨bv,0,none⟩)]))).alloc (.cells #[.int .i64 0] 3)).alloc (.cells #[.slice a h.length cap] 22))
  have b1:=((Boxed.new (w.alloc (.cells #[(.func (.func 241) #[] #[.pointer (some ⟨bv,0,none⟩)])] 127)) 3 (.int .i64 0)).alloc (.cells #[.slice a h.length cap] 22))
  have b2:=(Boxed.new ((w.alloc (.cells #[(.func (.func 241) #[] #[.pointer (some ⟨bv,0,none⟩)])] 127)).alloc (.cells #[.int .i64 0] 3)) 22 (.slice a h.length cap))
  (try simp only [World.size_alloc] at b0 b1 b2)
  exact ⟨((((Below.refl _ w).alloc (by first | exact Nat.le_refl _ | (simp only [World.size_alloc];omega)) _).alloc (by first | exact Nat.le_refl _ | (simp only [World.size_alloc];omega)) _).alloc (by first | exact Nat.le_refl _ | (simp only [World.size_alloc];omega)) _),(by simp),b0,b1,b2⟩
 obtain ⟨W0,hW0⟩:∃ W0,(((w.alloc (.cells #[(.func (.func 241) #[] #[.pointer (some ⟨bv,0,none⟩)])] 127)).alloc (.cells #[.int .i64 0] 3)).alloc (.cells #[.slice a h.length cap] 22))=W0:=⟨_,rfl⟩
 have sW0:W0.heap.size=w.heap.size+1+1+1:=by rw [← hW0];simp
 change Code.wpIn _ _ _ _ _ _ (((w.alloc (.cells #[(.func (.func 241) #[] #[.pointer (some ⟨bv,0,none⟩)])] 127)).alloc (.cells #[.int .i64 0] 3)).alloc (.cells #[.slice a h.length cap] 22))
 rw [hW0] at hS0 ⊢
 clear hW0
 refine wpIn_rangeFunc_ownH rfl (by omega) (gf:=192) (lb:=#[.pointer (some ⟨w.heap.size+1+1,0,none⟩)]) rfl trivial (enters_of Tryz.func192 (by kernel_rfl) rfl)
  (events8_stops h w a cap hT0 (w.heap.size+1+1) (3 - 1) W0 hS0.below hS0.be) (fun h k=>kpE_t h k) (kpE_b (by omega) (by omega)) (Below.refl _ _) (fun _=>rfl)
  (FInvV w bv (.slice a h.length cap) h p) (FOutV w h p)
  (ownFrom_of_below (fun _ W ⟨h1,_⟩=>by rw [sW0];exact h1.size) (fun _ W W' ⟨h1,h2⟩ hb=>⟨h1.bel (by rw [sW0] at hb;exact hb),h2⟩))
  (fun c=>ownFrom_of_below (fun _ W ⟨h1,h2,h3⟩=>by rw [sW0];exact h2) (fun _ W W' ⟨h1,h2,h3,i,h4,h5⟩ hb=>by
   rw [sW0] at hb
   exact ⟨h1,Nat.le_trans h2 hb.size,h3.trans (hb.mono (by omega)),i,boxed_bel h4 hb (by omega),h5⟩))
  ⟨hS0,fun _ j hj=>by simp at hj⟩
  (fun x a' W=>∃ Bx,w.heap.size+1+1 < Bx∧SBox W Bx 64 #[.int .i64 h[x.val].1,.int .i64 h[x.val].2.1,.string ⟨h[x.val].2.2.1.toArray⟩,.string ⟨h[x.val].2.2.2.toArray⟩]∧a'={ tmps:=#[.slice a h.length cap,(.func (.func 241) #[] #[.pointer (some ⟨bv,0,none⟩)]),undef,.pointer (some ⟨w.heap.size,0,none⟩),.pointer (some ⟨w.heap.size+1,0,none⟩),.int .i64 (x.val:Int),.pointer (some ⟨Bx,0,none⟩),.slice a h.length cap,eventsF8 (w.heap.size+1+1),.int .i64 (x.val:Int),evW h[x.val],undef,undef,undef,undef],defers:=[] })
  (fun x a' _ A B row hs hg hr=>by
   obtain ⟨Bx,h1,h2,h4⟩:=hs
   exact ⟨Bx,h1,block_kept h2 hg (fun r e=>(hr r e).2),h4⟩)
  ?assign ?body ?done ?stop
 case assign =>
  rintro l pre x W K ⟨hS,hp⟩ hK
  have hsz:=hS.size
  gi_wp2
  refine hK _ _ ((KeepsOthers.alloc _ _).from _) ⟨(Below.refl _ W).alloc (by omega) _,Below.heap_alloc W _ _ (by omega)⟩ ⟨hS.bel ((Below.refl _ W).alloc hsz _),hp⟩ ⟨W.heap.size,by omega,SBox.new W _ _,rfl⟩
 case body =>
  rintro l pre x a' W hl hrec ⟨hS,hp⟩ ⟨Bx,hBx,hblk,rfl⟩ hlt
  have HW0:Hid (W0.heap.size=w.heap.size+1+1+1):=sW0
  clear sW0 hS0 hl hrec
  have hsz:=hS.size
  have hxn:=x.isLt
  obtain ⟨⟨y0,y1,y2,y3⟩,hy⟩:∃ y,h[x.val]=y:=⟨_,rfl⟩
  have HY:Hid (h[x.val]=(y0,y1,y2,y3)):=hy
  rw [hy] at hblk ⊢
  simp only at hblk
  clear hy
  have q0:=hblk.cell 0 _ rfl
  have q1:=hblk.cell 1 _ rfl
  have q2:=hblk.cell 2 _ rfl
  have q3:=hblk.cell 3 _ rfl
  obtain ⟨i,hxi⟩:∃ i,x.val=i:=⟨_,rfl⟩
  have HI:Hid (x.val=i):=hxi
  rw [hxi] at hxn ⊢
  clear hxi
  have c0:=hS.bs.cell
  have C:=pwritten1_any y0 y1 y2 y3 val bv W (boxed_bel Kbv hS.below Kbv.lt)
  have b0:=Below.refl (w.heap.size+1+1+1) W
  by_cases hm:y0=3∧y3=val
  ·rw [decide_eq_true hm] at C
   have HM:Hid (pre <+: List.finRange h.length→x.val=pre.length→pre.length < h.length→fi p h.length=some i):=fun hp1 hp2 hp3=>(fi_some _ _ _).2 ⟨hxn,by
    have e:=HY.out
    rw [HP.out,ev_get h i hxn]
    simp only [HI.out] at e
    rw [e]
    exact decide_eq_true hm,fun j hj=>hp hp1 j (by have:=HI.out;omega)⟩
   clear hm
   gi_wp2_with ((try refine ⟨trivial,?_⟩);gi_at_call 241;refine (CallsIn.inRound l (callsIn_wide.2 C)).mono ?_;clear C;rintro e W1 ⟨rfl,b1⟩;refine Hid.out ?_)
   have s1:=b1.size
   have hS2:=hS.bel (b1.mono hsz)
   have f1:=hS2.r.cell
   have g1:=hS2.r.frozen
   have HF:Hid (KeepsFrom W0.heap.size W (W1.setCell ⟨w.heap.size+1,0,none⟩ (.int .i64 (i:Int)))∧FOutV w h p .ret (pre++[x]) (W1.setCell ⟨w.heap.size+1,0,none⟩ (.int .i64 (i:Int)))) :=
    ⟨((keeps_of_below b1).trans (KeepsOthers.setCell _ _ _)).from _,rfl,by simp;omega,hS2.below.setCell (p:=⟨w.heap.size+1,0,none⟩) (by simp) _,i,hS2.r.set _,fun hpre=>by
      obtain ⟨hp1,hp2,hp3⟩:=fin_prefix hpre
      exact HM.out hp1 hp2 hp3⟩
   clear hS hS2 hp HY HI HM
   refine Lib.hid ?_
   gi_wp2
   exact HF.out
  ·rw [decide_eq_false hm] at C
   have HM:Hid (x.val=pre.length→pre.length < h.length→p pre.length=false):=fun hp2 hp3=>by
    have e:=HY.out
    rw [HP.out,ev_get h _ hp3]
    simp only [hp2] at e
    rw [e]
    exact decide_eq_false hm
   clear hm
   gi_wp2_with ((try refine ⟨trivial,?_⟩);gi_at_call 241;refine (CallsIn.inRound l (callsIn_wide.2 C)).mono ?_;clear C;rintro e W1 ⟨rfl,b1⟩;refine Hid.out ?_)
   have s1:=b1.size
   have hS2:=hS.bel (b1.mono hsz)
   have HF:Hid (KeepsFrom W0.heap.size W W1∧KpE w.heap.size (w.heap.size+1+1) W W1∧FInvV w bv (.slice a h.length cap) h p (pre++[x]) W1) :=
    ⟨(keeps_of_below b1).from _,⟨b1.mono (by omega),b1.block _ (by omega)⟩,hS2,fun hpre j hj=>by
      obtain ⟨hp1,hp2,hp3⟩:=fin_prefix hpre
      rw [List.length_append,List.length_singleton] at hj
      exact upto_next p pre.length (hp hp1) (HM.out hp2 hp3) j hj⟩
   clear hS hS2 hp HY HI HM
   refine Lib.hid ?_
   gi_wp2
   exact HF.out
 case done =>
  rintro D ys W hD rfl ⟨hS,hp⟩ hK
  have HE:Hid (fi p h.length=none):=(fi_none _ _).2 (fun j hj=>hp (List.prefix_refl _) j (by rw [List.length_finRange];exact hj))
  have f1:=hS.r.cell
  have g1:=hS.r.frozen
  have HD:Hid (w.heap.size+1+1+1≤D):=by rw [sW0] at hD;exact hD
  clear sW0 hS0 hD hp
  gi_wp2
  have hK':=(KeepsOthers.setCell W ⟨w.heap.size+1,0,none⟩ (.int .i64 (-1))).same D _ hK rfl
  have B1:=hS.below.setCell (p:=⟨w.heap.size+1,0,none⟩) (by simp) (.int .i64 (-1))
  have R1:=hS.r.set (.int .i64 (-1))
  refine ⟨by simp,.inl ⟨_,_,rfl,run_takeDeferred hK',?_⟩⟩
  have d1:=cell_kept R1.cell (grownBy_putObj' _ D (.deferred none)) (fun r e=>by cases e;exact ⟨_,hK',rfl⟩)
  refine ⟨.int .i64 (-1),?_,by rw [HE.out];rfl,B1.trans (belowK_b (w:=w) (Nat.le_refl _) _ D _ _ (by have:=HD.out;omega) hK' rfl rfl)⟩
  refine results_cell1 rfl _ _ _ ?_
  simp [go_sem,d1]
 case stop =>
  rintro D c pre W hD hSp ⟨rfl,hs,hb,i,hr1,hbad⟩ hK
  have HE:Hid (fi p h.length=some i):=hbad hSp
  have HD:Hid (w.heap.size+1+1+1≤D):=by rw [sW0] at hD;exact hD
  clear sW0 hS0 hD hbad
  gi_wp2
  refine ⟨by simp,.inl ⟨_,_,rfl,run_takeDeferred hK,?_⟩⟩
  have d1:=cell_kept hr1.cell (grownBy_putObj' _ D (.deferred none)) (fun r e=>by cases e;exact ⟨_,hK,rfl⟩)
  refine ⟨.int .i64 (i:Int),?_,by rw [HE.out];rfl,hb.trans (belowK_b (w:=w) (Nat.le_refl _) _ D _ _ (by have:=HD.out;omega) hK rfl rfl)⟩
  refine results_cell1 rfl _ _ _ ?_
  simp [go_sem,d1]
end Go.Proofs.YtkkenfhlgpjmjaaGreatDoor
