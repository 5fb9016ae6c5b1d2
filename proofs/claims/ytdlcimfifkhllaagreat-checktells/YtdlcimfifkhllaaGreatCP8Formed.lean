/-
  What history.Formed answers.
-/
import Derived.Test.YtdlcimfifkhllaaGreatCL2a
import Derived.Test.YtdlcimfifkhllaaGreatCR8Formed
namespace Go.Proofs.YtdlcimfifkhllaaGreat
set_option maxRecDepth 100000
open Go.RowKit Go.Shelf
set_option linter.unusedVariables false
attribute [local go_sem] Oper.semAt_some ba_size
theorem lives_open (h:List Ev) (y:Lf) (hy:y∈livesL h) (ho:y.2.2.1=h.length):∃ i,i < h.length∧openAt h i=true:=by
 unfold livesL at hy
 obtain ⟨i,hi,hf⟩:=List.mem_filterMap.1 hy
 have hil:=List.mem_range.1 hi
 by_cases h1:fstL h (ev h i).2.1 i=none
 ·rw [if_pos h1] at hf
  have hfn:fstL h (ev h i).2.1 h.length=some i:=(fstL_some h _ _ _).2 ⟨hil,rfl,(fstL_none h _ _).1 h1⟩
  unfold findL at hf
  rw [hfn] at hf
  simp only at hf
  cases he:endL h (ev h i).2.1 h.length with
  | none=>exact ⟨i,hil,by unfold openAt;rw [he];rfl⟩
  | some e =>
    rw [he] at hf
    simp only [Option.some.injEq] at hf
    rw [← hf] at ho
    have:=((endL_some h _ _ _).1 he).1
    simp only at ho
    omega
 ·rw [if_neg h1] at hf;cases hf
theorem lives_shut (h:List Ev) (hy:∀ y∈livesL h,y.2.2.1≠h.length):∀ i,i < h.length→openAt h i=false:=by
 intro i hi
 unfold openAt
 rw [decide_eq_false_iff_not]
 intro he
 cases hf:fstL h (ev h i).2.1 h.length with
 | none=>exact (fstL_none h _ _).1 hf i hi rfl
 | some q =>
   obtain ⟨q1,q2,q3⟩:=(fstL_some h _ _ _).1 hf
   have hfl:findL h (ev h i).2.1=some ((ev h i).2.1,q,h.length,false):=by unfold findL;rw [hf,he]
   refine hy ((ev h i).2.1,q,h.length,false) ?_ rfl
   unfold livesL
   refine List.mem_filterMap.2 ⟨q,List.mem_range.2 q1,?_⟩
   rw [q2,if_pos ((fstL_none h _ _).2 q3),hfl]
theorem results_cells8 {fn:Func} {P:Program} {p q:Tmp} {t1 t2:TypeId} (h:fn.results=#[.cell p t1,.cell q t2]) (tmps:Array Value) (w:World) (v:Value)
 (hv:((asAddr (tmps.getD p undef)).run P w).andThen (fun a w₁=>((loadVar t1 a).run P w₁).andThen fun x w₂=>((asAddr (tmps.getD q undef)).run P w₂).andThen fun b w₃=>((loadVar t2 b).run P w₃).andThen fun y w₄=>Result.ok (.tuple #[x,y]) w₄)=Result.ok v w) :
 (results fn tmps).run P w=.ok v w:=by
 rw [← hv]
 simp only [results,h]
 simp [Sem.run_bind,Result.andThen]
structure WSt (w:World) (sl:Value) (W:World):Prop where
 below:Below w.heap.size w W
 size:w.heap.size+1+1+1+1≤W.heap.size
 bh:Boxed W (w.heap.size) 22 (sl)
 r1:Boxed W (w.heap.size+1) 3 (.int .i64 0)
 r2:Boxed W (w.heap.size+1+1) 31 (.int .i64 0)
 be:Boxed W (w.heap.size+1+1+1) 22 (sl)
theorem WSt.bel {w:World} {sl:Value} {W W':World} (h:WSt w sl W) (hb:Below (w.heap.size+1+1+1+1) W W'):WSt w sl W' :=
 ⟨h.below.trans (hb.mono (by omega)),Nat.le_trans h.size hb.size,boxed_bel h.bh hb (by omega),boxed_bel h.r1 hb (by omega),boxed_bel h.r2 hb (by omega),boxed_bel h.be hb (by omega)⟩
def WInv (w:World) (sl:Value) (h:List Ev) (pre:List (Fin h.length)) (W:World):Prop :=
 WSt w sl W∧(pre <+: List.finRange h.length→∀ j,j < pre.length→wrongAt h j=false)
def WOut (w:World) (h:List Ev) (c:Code) (pre:List (Fin h.length)) (W:World):Prop :=
 c=.ret∧w.heap.size+1+1+1+1≤W.heap.size∧Below w.heap.size w W∧∃ i e:Nat,Boxed W (w.heap.size+1) 3 (.int .i64 (i:Int))∧Boxed W (w.heap.size+1+1) 31 (.int .i64 (e:Int))∧(pre <+: List.finRange h.length→formedL h=(i,e))
set_option maxHeartbeats 8000000 in
theorem pformed8_any (h:List Ev) (v:Value) (w:World) (hT:IsEvs w v h) (hG:∀ x∈h,goodE x) :
 Calls Tryz.prog 22 #[v] w fun e w'=>e=.returned (.tuple #[.int .i64 ((formedL h).1:Int),.int .i64 ((formedL h).2:Int)])∧Below w.heap.size w w':=by
 have hT0:=hT
 obtain ⟨a,cap,rfl,h1,h2,h3,HC⟩:=hT.some_at
 clear HC hT
 by_cases hbig:256 < h.length
 ·rw [formed_big h hbig]
  have j:(256:Int) < (h.length:Int):=by omega
  have b1:=(((Below.refl w.heap.size w).alloc (Nat.le_refl _) (.cells #[.slice a h.length cap] 22)).alloc (by simp) (.cells #[.int .i64 0] 3)).alloc (by simp;omega) (.cells #[.int .i64 0] 31)
  clear hT0 hG hbig
  go_enter Tryz.func22,Tryz.ntmps22
  go_wp2_with fail
  refine bodyPost_ret (v:=.tuple #[.int .i64 0,.int .i64 4]) (results_cells8 rfl _ _ _ (by simp [go_sem])) rfl ⟨rfl,?_⟩
  exact (((Below.refl w.heap.size w).alloc (Nat.le_refl _) _).alloc (by simp) _).alloc (by simp;omega) _
 have hl:¬ 256 < h.length:=hbig
 have HL:Hid (¬ 256 < h.length):=hl
 have jb:¬ (256:Int) < (h.length:Int):=by omega
 refine (callsIn_wide (n:=3)).1 ?_
 refine callsIn_of_wp_marks Tryz.func22 rfl trivial ?_ rfl
 simp only [Tryz.ntmps22,List.size_toArray,List.length_cons,List.length_nil,Nat.reduceAdd,Nat.reduceSub,Array.replicate_succ,Array.replicate_zero,List.push_toArray,List.append_toArray,List.nil_append,List.cons_append]
 gi_wp2_with ((try refine ⟨trivial,?_⟩);gi_at_call 48;refine (callsIn_wide.2 (pevents8_any _ _ _ _)).mono ?_;rintro e w2 ⟨rfl,rfl⟩)
 have hS0:WSt w (.slice a h.length cap) ((((w.alloc (.cells #[.slice a h.length cap] 22)).alloc (.cells #[.int .i64 0] 3)).alloc (.cells #[.int .i64 0] 31)).alloc (.cells #[.slice a h.length cap] 22)):=by
  have b0:=((((Boxed.new w 22 (.slice a h.length cap)).alloc (.cells #[.int .i64 0] 3)).alloc (.cells #[.int .i64 0] 31)).alloc (.cells #[.slice a h.length cap] 22))
  have b1:=(((Boxed.new (w.alloc (.cells #[.slice a h.length cap] 22)) 3 (.int .i64 0)).alloc (.cells #[.int .i64 0] 31)).alloc (.cells #[.slice a h.length cap] 22))
  have b2:=((Boxed.new ((w.alloc (.cells #[.slice a h.length cap] 22)).alloc (.cells #[.int .i64 0] 3)) 31 (.int .i64 0)).alloc (.cells #[.slice a h.length cap] 22))
  have b3:=(Boxed.new (((w.alloc (.cells #[.slice a h.length cap] 22)).alloc (.cells #[.int .i64 0] 3)).alloc (.cells #[.int .i64 0] 31)) 22 (.slice a h.length cap))
  (try simp only [World.size_alloc] at b0 b1 b2 b3)
  exact ⟨(((((Below.refl _ w).alloc (by first | exact Nat.le_refl _ | (simp only [World.size_alloc];omega)) _).alloc (by first | exact Nat.le_refl _ | (simp only [World.size_alloc];omega)) _).alloc (by first | exact Nat.le_refl _ | (simp only [World.size_alloc];omega)) _).alloc (by first | exact Nat.le_refl _ | (simp only [World.size_alloc];omega)) _),(by simp),b0,b1,b2,b3⟩
 obtain ⟨W0,hW0⟩:∃ W0,((((w.alloc (.cells #[.slice a h.length cap] 22)).alloc (.cells #[.int .i64 0] 3)).alloc (.cells #[.int .i64 0] 31)).alloc (.cells #[.slice a h.length cap] 22))=W0:=⟨_,rfl⟩
 have sW0:W0.heap.size=w.heap.size+1+1+1+1:=by rw [← hW0];simp
 change Code.wpIn _ _ _ _ _ _ ((((w.alloc (.cells #[.slice a h.length cap] 22)).alloc (.cells #[.int .i64 0] 3)).alloc (.cells #[.int .i64 0] 31)).alloc (.cells #[.slice a h.length cap] 22))
 rw [hW0] at hS0 ⊢
 clear hW0
 refine wpIn_rangeFunc_ownH rfl (by omega) (gf:=76) (lb:=#[.pointer (some ⟨w.heap.size+1+1+1,0,none⟩)]) rfl trivial (enters_of Tryz.func76 (by kernel_rfl) rfl)
  (events8_stops h w a cap hT0 (w.heap.size+1+1+1) (3 - 1) W0 hS0.below hS0.be) (fun h k=>kpE_t h k) (kpE_b (by omega) (by omega)) (Below.refl _ _) (fun _=>rfl)
  (WInv w (.slice a h.length cap) h) (WOut w h)
  (ownFrom_of_below (fun _ W ⟨h1,_⟩=>by rw [sW0];exact h1.size) (fun _ W W' ⟨h1,h2⟩ hb=>⟨h1.bel (by rw [sW0] at hb;exact hb),h2⟩))
  (fun c=>ownFrom_of_below (fun _ W ⟨h1,h2,h3⟩=>by rw [sW0];exact h2) (fun _ W W' ⟨h1,h2,h3,i,e,h4,h5,h6⟩ hb=>by
   rw [sW0] at hb
   exact ⟨h1,Nat.le_trans h2 hb.size,h3.trans (hb.mono (by omega)),i,e,boxed_bel h4 hb (by omega),boxed_bel h5 hb (by omega),h6⟩))
  ⟨hS0,fun _ j hj=>by simp at hj⟩
  (fun x a' W=>a'={ tmps:=#[.slice a h.length cap,.pointer (some ⟨w.heap.size,0,none⟩),.pointer (some ⟨w.heap.size+1,0,none⟩),.pointer (some ⟨w.heap.size+1+1,0,none⟩),.int .i64 (x.val:Int),undef,undef,undef,.slice a h.length cap,.int .i64 (h.length:Int),.bool false,.slice a h.length cap,eventsF8 (w.heap.size+1+1+1),.int .i64 (x.val:Int),evW h[x.val],undef,undef,undef,undef,undef,undef,undef,undef,undef,undef,undef,undef,undef,undef,undef,undef,undef,undef,undef,undef,undef,undef,undef,undef],defers:=[] })
  (fun x a' _ A B row hs hg hr=>hs)
  ?assign ?body ?done ?stop
 case assign =>
  rintro l pre x W K ⟨hS,hp⟩ hK
  gi_wp2
  exact hK _ _ (KeepsFrom.refl _ _) ⟨Below.refl _ _,rfl⟩ ⟨hS,hp⟩ rfl
 case body =>
  rintro l pre x a' W hl hrec ⟨hS,hp⟩ rfl hlt
  have HW0:Hid (W0.heap.size=w.heap.size+1+1+1+1):=sW0
  clear sW0 hS0 hl hrec
  have hsz:=hS.size
  have hxn:=x.isLt
  obtain ⟨i,hxi⟩:∃ i,x.val=i:=⟨_,rfl⟩
  have HI:Hid (x.val=i):=hxi
  obtain ⟨ye,hye⟩:∃ y,evW h[x.val]=y:=⟨_,rfl⟩
  rw [hye]
  clear hye
  rw [hxi] at hxn ⊢
  clear hxi
  have c0:=hS.bh.cell
  have C:=pfault8_any h (.slice a h.length cap) W (hT0.below hS.below) i hxn (by omega)
  by_cases hm:formStep h i=0
  ·have HM:Hid (formStep h i=0):=hm
   rw [hm] at C
   clear hm
   gi_wp2_with ((try refine ⟨trivial,?_⟩);gi_at_call 49;refine (CallsIn.inRound l (callsIn_wide.2 C)).mono ?_;clear C;rintro e W1 ⟨rfl,b1⟩;refine Hid.out ?_)
   have s1:=b1.size
   have hS2:=hS.bel (b1.mono hsz)
   have HF:Hid (KeepsFrom W0.heap.size W W1∧KpE w.heap.size (w.heap.size+1+1+1) W W1∧WInv w (.slice a h.length cap) h (pre++[x]) W1) :=
    ⟨(keeps_of_below b1).from _,⟨b1.mono (by omega),b1.block _ (by omega)⟩,hS2,fun hpre j hj=>by
      obtain ⟨hp1,hp2,hp3⟩:=fin_prefix hpre
      rw [List.length_append,List.length_singleton] at hj
      have ei:=HI.out
      refine upto_next (wrongAt h) pre.length (hp hp1) ?_ j hj
      unfold wrongAt
      rw [← hp2,ei,HM.out]
      rfl⟩
   clear hS hS2 hp HI HM
   refine Lib.hid ?_
   gi_wp2
   exact HF.out
  ·have HM:Hid (¬ formStep h i=0):=hm
   obtain ⟨c,hc⟩:∃ c,formStep h i=c:=⟨_,rfl⟩
   have HCc:Hid (formStep h i=c):=hc
   rw [hc] at C hm
   have ec:((c:Int) != 0)=true:=by rw [bne_iff_ne];omega
   have ec2:((c:Int)==0)=false:=by rw [beq_eq_false_iff_ne];omega
   clear hm hc
   gi_wp2_with ((try refine ⟨trivial,?_⟩);gi_at_call 49;refine (CallsIn.inRound l (callsIn_wide.2 C)).mono ?_;clear C;rintro e W1 ⟨rfl,b1⟩;refine Hid.out ?_)
   have s1:=b1.size
   have hS2:=hS.bel (b1.mono hsz)
   have f1:=hS2.r1.cell
   have g1:=hS2.r1.frozen
   have f2:=hS2.r2.cell
   have g2:=hS2.r2.frozen
   have HF:Hid (KeepsFrom W0.heap.size W ((W1.setCell ⟨w.heap.size+1,0,none⟩ (.int .i64 (i:Int))).setCell ⟨w.heap.size+1+1,0,none⟩ (.int .i64 (c:Int)))∧WOut w h .ret (pre++[x]) ((W1.setCell ⟨w.heap.size+1,0,none⟩ (.int .i64 (i:Int))).setCell ⟨w.heap.size+1+1,0,none⟩ (.int .i64 (c:Int)))):=by
    refine ⟨(((keeps_of_below b1).trans (KeepsOthers.setCell _ _ _)).trans (KeepsOthers.setCell _ _ _)).from _,rfl,by simp;omega,(hS2.below.setCell (p:=⟨w.heap.size+1,0,none⟩) (by simp) _).setCell (p:=⟨w.heap.size+1+1,0,none⟩) (by simp;omega) _,i,c,(hS2.r1.set _).other (by omega) _,(hS2.r2.other (by omega) _).set _,fun hpre=>?_⟩
    obtain ⟨hp1,hp2,hp3⟩:=fin_prefix hpre
    have ei:=HI.out
    exact formed_at h HL.out i c hxn (fun j hj=>hp hp1 j (by omega)) HCc.out (by have:=HM.out;rw [HCc.out] at this;exact this)
   clear hS hS2 hp HI HM
   refine Lib.hid ?_
   gi_wp2
   exact HF.out
 case done =>
  rintro D ys W hD rfl ⟨hS,hp⟩ hK
  have HA:Hid (∀ j,j < h.length→wrongAt h j=false):=fun j hj=>hp (List.prefix_refl _) j (by rw [List.length_finRange];exact hj)
  have HD:Hid (w.heap.size+1+1+1+1≤D):=by rw [sW0] at hD;exact hD
  have c0:=hS.bh.cell
  have C:=plives8_any h (.slice a h.length cap) W (hT0.below hS.below) hG (by omega)
  clear sW0 hS0 hD hp
  gi_wp2_with ((try refine ⟨trivial,?_⟩);gi_at_call 50;refine (callsIn_wide.2 C).mono ?_;clear C;rintro e W1 ⟨r,rfl,b1,hrow⟩;refine Hid.out ?_)
  obtain ⟨gr,cr,rfl,hcr⟩:=own_slice9 hrow
  have hsz:=hS.size
  have hS1:=hS.bel (b1.mono hsz)
  have z1:=b1.size
  have hK1:=(keeps_of_below b1).same D _ hK rfl
  have hDlt:D < W1.heap.size:=(Array.getElem?_eq_some_iff.1 hK1).1
  obtain ⟨L,hLs⟩:∃ L,livesL h=L:=⟨_,rfl⟩
  have HLs:Hid (livesL h=L):=hLs
  rw [hLs] at hrow hcr ⊢
  have hlen:L.length≤300:=by rw [← hLs];have:=lives_len h;omega
  clear hLs hS
  have HS1:=Lib.hid hS1
  have HB1:=Lib.hid b1
  have c1:=hS1.bh.cell
  refine Lib.hid ?_
  gi_wp2
  gi_loopw [25] (fun i wr=>∃ k:Nat,k≤L.length∧i=.int .i64 k∧Hid (∀ j (hj:j < k) (hl:j < L.length),L[j].2.2.1≠h.length)∧Below W1.heap.size W1 wr) (fun i _=>L.length - (intOf i).toNat)
  case atStart=>exact ⟨0,Nat.zero_le _,rfl,(fun j hj=>by omega),Below.refl _ _⟩
  case round =>
   obtain ⟨k,hk,rfl,HQ,hB⟩:=hrel
   have hwr:=hB.size
   have hSr:=HS1.out.bel (hB.mono HS1.out.size)
   have c2:=hSr.bh.cell
   have hKr:wr.heap[D]?=some (.deferred (some [])):=(hB.block D hDlt).trans hK1
   have f1:=hSr.r1.cell
   have g1:=hSr.r1.frozen
   have f2:=hSr.r2.cell
   have g2:=hSr.r2.frozen
   by_cases hlt:k < L.length
   ·have ji:(k:Int) < (L.length:Int):=by omega
    obtain ⟨g,rfl⟩:∃ g,gr=some ⟨g,0,none⟩:=by
     rcases hrow.2 with ⟨e,h0⟩ | ⟨g,cp,cur,e,_⟩
     ·omega
     ·simp at e;exact ⟨g,e.1⟩
    have hgl:g < W1.heap.size:=(hrow.lt g rfl).2
    have l0:=(hB.cell (p:=⟨g,k*4,none⟩) hgl).trans (life_cell hrow hlt 0 (by rw [lifV_len];omega))
    have l1:=(hB.cell (p:=⟨g,k*4+1,none⟩) hgl).trans (life_cell hrow hlt 1 (by rw [lifV_len];omega))
    have l2:=(hB.cell (p:=⟨g,k*4+2,none⟩) hgl).trans (life_cell hrow hlt 2 (by rw [lifV_len];omega))
    have l3:=(hB.cell (p:=⟨g,k*4+3,none⟩) hgl).trans (life_cell hrow hlt 3 (by rw [lifV_len];omega))
    simp only [lifV,List.getElem_cons_succ,List.getElem_cons_zero] at l0 l1 l2 l3
    have HM:Hid (L[k]∈L):=List.getElem_mem _
    obtain ⟨⟨t0,t1,t2,t3⟩,hy⟩:∃ y,L[k]=y:=⟨_,rfl⟩
    have HY:Hid (L[k]=(t0,t1,t2,t3)):=hy
    rw [hy] at l0 l1 l2 l3 HM
    simp only at l0 l1 l2 l3
    clear hy
    have bA:=(Below.refl wr.heap.size wr).alloc (Nat.le_refl _) (.cells #[.int .i64 t0,.int .i64 (t1:Int),.int .i64 (t2:Int),.bool t3] 91)
    have hSa:=hSr.bel (bA.mono (by have:=HS1.out.size;omega))
    have ca:=hSa.bh.cell
    have fa1:=hSa.r1.cell
    have ga1:=hSa.r1.frozen
    have fa2:=hSa.r2.cell
    have ga2:=hSa.r2.frozen
    have hKa:=(KeepsOthers.alloc wr (.cells #[.int .i64 t0,.int .i64 (t1:Int),.int .i64 (t2:Int),.bool t3] 91)).same D _ hKr rfl
    have hBa:=hB.trans (bA.mono hwr)
    by_cases ho:t2=h.length
    ·have e1:((t2:Int)==(h.length:Int))=true:=by rw [ho];exact beq_self_eq_true _
     have HE:Hid (formedL h=(h.length,9)):=by
      obtain ⟨i,hi,hoi⟩:=lives_open h (t0,t1,t2,t3) (by rw [HLs.out];exact HM.out) ho
      exact formed_open h HL.out HA.out i hi hoi
     clear ho HM HY HQ
     gi_wp2
     have hK':=((KeepsOthers.setCell (wr.alloc (.cells #[.int .i64 t0,.int .i64 (t1:Int),.int .i64 (t2:Int),.bool t3] 91)) ⟨w.heap.size+1,0,none⟩ (.int .i64 (h.length:Int))).trans (KeepsOthers.setCell _ ⟨w.heap.size+1+1,0,none⟩ (.int .i64 9))).same D _ hKa rfl
     have B9:=(hSa.below.setCell (p:=⟨w.heap.size+1,0,none⟩) (by simp) (.int .i64 (h.length:Int))).setCell (p:=⟨w.heap.size+1+1,0,none⟩) (by simp;omega) (.int .i64 9)
     have R1:=(hSa.r1.set (.int .i64 (h.length:Int))).other (B':=w.heap.size+1+1) (by omega) (.int .i64 9)
     have R2:=(hSa.r2.other (B':=w.heap.size+1) (by omega) (.int .i64 (h.length:Int))).set (.int .i64 9)
     refine ⟨by simp,.inl ⟨_,_,rfl,run_takeDeferred hK',?_⟩⟩
     have d1:=cell_kept R1.cell (grownBy_putObj' _ D (.deferred none)) (fun r e=>by cases e;exact ⟨_,hK',rfl⟩)
     have d2:=cell_kept R2.cell (grownBy_putObj' _ D (.deferred none)) (fun r e=>by cases e;exact ⟨_,hK',rfl⟩)
     refine ⟨.tuple #[.int .i64 (h.length:Int),.int .i64 9],?_,by rw [HE.out];rfl,B9.trans (belowK_b (w:=w) (Nat.le_refl _) _ D _ _ (by have:=HD.out;omega) hK' rfl rfl)⟩
     refine results_cells8 rfl _ _ _ ?_
     simp [go_sem,d1,d2]
    ·have e1:((t2:Int)==(h.length:Int))=false:=by rw [beq_eq_false_iff_ne];omega
     have HQ':Hid (∀ j (hj:j < k+1) (hl:j < L.length),L[j].2.2.1≠h.length):=fun j hj hl=>by
      rcases Nat.lt_or_ge j k with h' | h'
      ·exact HQ.out j h' hl
      ·obtain rfl:j=k:=by omega
       rw [HY.out]
       exact ho
     clear ho HM HY HQ
     gi_wp2
     go_roundw
     case rel=>exact ⟨k+1,by omega,by first | go_num | simp,HQ',hBa⟩
     case measure=>simp [intOf];omega
   ·have HE:Hid (formedL h=(h.length,0)):=formed_fine h HL.out HA.out (lives_shut h (fun y hy=>by
     rw [HLs.out] at hy
     obtain ⟨j,hj,rfl⟩:=List.getElem_of_mem hy
     exact HQ.out j (by omega) hj))
    obtain rfl:k=L.length:=by omega
    clear HQ
    gi_wp2
    have hK':=((KeepsOthers.setCell wr ⟨w.heap.size+1,0,none⟩ (.int .i64 (h.length:Int))).trans (KeepsOthers.setCell _ ⟨w.heap.size+1+1,0,none⟩ (.int .i64 0))).same D _ hKr rfl
    have B9:=(hSr.below.setCell (p:=⟨w.heap.size+1,0,none⟩) (by simp) (.int .i64 (h.length:Int))).setCell (p:=⟨w.heap.size+1+1,0,none⟩) (by simp;omega) (.int .i64 0)
    have R1:=(hSr.r1.set (.int .i64 (h.length:Int))).other (B':=w.heap.size+1+1) (by omega) (.int .i64 0)
    have R2:=(hSr.r2.other (B':=w.heap.size+1) (by omega) (.int .i64 (h.length:Int))).set (.int .i64 0)
    refine ⟨by simp,.inl ⟨_,_,rfl,run_takeDeferred hK',?_⟩⟩
    have d1:=cell_kept R1.cell (grownBy_putObj' _ D (.deferred none)) (fun r e=>by cases e;exact ⟨_,hK',rfl⟩)
    have d2:=cell_kept R2.cell (grownBy_putObj' _ D (.deferred none)) (fun r e=>by cases e;exact ⟨_,hK',rfl⟩)
    refine ⟨.tuple #[.int .i64 (h.length:Int),.int .i64 0],?_,by rw [HE.out];rfl,B9.trans (belowK_b (w:=w) (Nat.le_refl _) _ D _ _ (by have:=HD.out;omega) hK' rfl rfl)⟩
    refine results_cells8 rfl _ _ _ ?_
    simp [go_sem,d1,d2]
 case stop =>
  rintro D c pre W hD hSp ⟨rfl,hs,hb,i,e,hr1,hr2,hbad⟩ hK
  have HE:Hid (formedL h=(i,e)):=hbad hSp
  have HD:Hid (w.heap.size+1+1+1+1≤D):=by rw [sW0] at hD;exact hD
  clear sW0 hS0 hD hbad
  gi_wp2
  refine ⟨by simp,.inl ⟨_,_,rfl,run_takeDeferred hK,?_⟩⟩
  have d1:=cell_kept hr1.cell (grownBy_putObj' _ D (.deferred none)) (fun r e=>by cases e;exact ⟨_,hK,rfl⟩)
  have d2:=cell_kept hr2.cell (grownBy_putObj' _ D (.deferred none)) (fun r e=>by cases e;exact ⟨_,hK,rfl⟩)
  refine ⟨.tuple #[.int .i64 (i:Int),.int .i64 (e:Int)],?_,by rw [HE.out],hb.trans (belowK_b (w:=w) (Nat.le_refl _) _ D _ _ (by have:=HD.out;omega) hK rfl rfl)⟩
  refine results_cells8 rfl _ _ _ ?_
  simp [go_sem,d1,d2]
end Go.Proofs.YtdlcimfifkhllaaGreat
