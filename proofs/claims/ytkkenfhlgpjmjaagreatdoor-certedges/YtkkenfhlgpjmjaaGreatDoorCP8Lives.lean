/-
  What history.Lives answers.
-/
import Derived.Test.YtkkenfhlgpjmjaaGreatDoorCL0d
namespace Go.Proofs.YtkkenfhlgpjmjaaGreatDoor
set_option maxRecDepth 100000
open Go.RowKit Go.Shelf Go.Maps
set_option linter.unusedVariables false
attribute [local go_sem] Oper.semAt_some ba_size
theorem row_not_box8 {W:World} {B t e:Nat} {c:Array Value} (h:SBox W B t c) {base size k:Nat} {v:Value} {xs:List Value} (hr:W.ownsRow base e size v k xs) (hte:t≠e):some B≠v.ownBlock:=block_not_row h hte hr
theorem kpL_set2 {n b A:Nat} {W:World} (hn:n≤W.heap.size) (hb:b < W.heap.size) (hA:A+1+1+1+1≤W.heap.size) (g j1 j2:Nat) (u1 u2:Value) (h1:n≤g) (h2:g≠b) (h3:A+1+1+1+1≤g):KpL n b A W ((W.drew.setCell ⟨g,j1,none⟩ u1).setCell ⟨g,j2,none⟩ u2):=by
 have o:∀ c,c≠g→((W.drew.setCell ⟨g,j1,none⟩ u1).setCell ⟨g,j2,none⟩ u2).heap[c]?=W.heap[c]?:=fun c hc=>by
  rw [Below.heap_setCell _ _ _ c hc,Below.heap_setCell _ _ _ c hc]
  rfl
 exact ⟨((Below.refl n W).drew.setCell (p:=⟨g,j1,none⟩) h1 _).setCell (p:=⟨g,j2,none⟩) h1 _,o _ (fun e=>h2 e.symm),fun j _ hj=>o _ (by omega)⟩
def nfI (L:List Lf):Int→Option Int:=fun t=>(nf L t).map Int.ofNat
theorem endS_nfI (L:List Lf) (m i:Nat) (b:Bool):nfI (endS L m i b)=nfI L:=by funext t;unfold nfI;rw [endS_nf]
theorem nfI_snoc (L:List Lf) (t:Int) (i n:Nat) (hf:nf L t=none):updI (nfI L) t (L.length:Int)=nfI (L++[(t,i,n,false)]):=by
 funext u
 unfold updI nfI
 rw [nf_snoc]
 by_cases h:u=t
 ·subst h;rw [if_pos rfl,hf,if_pos rfl];rfl
 ·rw [if_neg h,if_neg (fun e=>h e.symm)]
  cases nf L u<;>rfl
theorem recL_snoc (L:List Lf) (t:Int) (i n:Nat) (b:Bool):recV lifV (L++[(t,i,n,b)])=recV lifV L++[.int .i64 t,.int .i64 (i:Int),.int .i64 (n:Int),.bool b]:=by rw [recV_append];rfl
theorem lif_set8 (L:List Lf) (m i:Nat) (hm:m < L.length) (b:Bool):((recV lifV L).set (m*4+2) (.int .i64 (i:Int))).set (m*4+3) (.bool b)=recV lifV (endS L m i b):=by
 have e:L=L.take m++L[m]::L.drop (m+1):=by rw [← List.drop_eq_getElem_cons hm,List.take_append_drop]
 have hl:(L.take m).length=m:=by rw [List.length_take];omega
 have l:=recV_length lifV_len (L.take m)
 rw [hl] at l
 have c:∀ y,recV lifV (L.take m++y::L.drop (m+1))=recV lifV (L.take m)++(lifV y++recV lifV (L.drop (m+1))):=fun y=>by rw [recV_append,show y::L.drop (m+1)=[y]++L.drop (m+1) from rfl,recV_append];simp [recV]
 have hE:endS L m i b=L.take m++(L[m].1,L[m].2.1,i,b)::L.drop (m+1):=by
  unfold endS
  rw [List.getD_eq_getElem?_getD,List.getElem?_eq_getElem hm,List.set_eq_take_append_cons_drop,if_pos hm]
  rfl
 rw [hE,c]
 conv=>lhs;rw [e,c]
 rw [List.set_append_right _ _ (by omega),List.set_append_right _ _ (by omega),l,show m*4+2 - m*4=2 by omega,show m*4+3 - m*4=3 by omega]
 rfl
theorem life_cell {W:World} {B e g n cap m:Nat} {L:List Lf} (h:W.ownsRow B e 4 (.slice (some ⟨g,0,none⟩) n cap) n (recV lifV L)) (hm:m < L.length) (j:Nat) (hj:j < (lifV L[m]).length):W.cell? ⟨g,m*4+j,none⟩=some (lifV L[m])[j]:=by
 rw [lifV_len] at hj
 have l:=recV_length lifV_len L
 have hn:=h.1
 rw [l] at hn
 have c:=h.cellAt (m*4+j) (by omega)
 rw [recV_get lifV_len L m hm j (by omega)] at c
 rw [c,List.getElem?_eq_getElem (by rw [lifV_len];omega)]
theorem ZSt.fin8 {w:World} {t0:TypeId} {v0:Value} {t1:Nat} {sl:Value} {g n cap m':Nat} {f:Int→Option Int} {L:List Lf} {W:World} (h:ZSt w t0 v0 t1 73 4 sl (.slice (some ⟨g,0,none⟩) n cap) m' f n (recV lifV L) W) {m:Nat} (hm:m < L.length) (i:Nat) (b:Bool) :
 ZSt w t0 v0 t1 73 4 sl (.slice (some ⟨g,0,none⟩) n cap) m' f n (recV lifV (endS L m i b)) ((W.drew.setCell ⟨g,m*4+2,none⟩ (.int .i64 (i:Int))).setCell ⟨g,m*4+3,none⟩ (.bool b)):=by
 have hg:=h.far g rfl
 have o:∀ c,c≠g→((W.drew.setCell ⟨g,m*4+2,none⟩ (.int .i64 (i:Int))).setCell ⟨g,m*4+3,none⟩ (.bool b)).heap[c]?=W.heap[c]?:=fun c hc=>by
  rw [Below.heap_setCell _ _ _ c hc,Below.heap_setCell _ _ _ c hc]
  rfl
 have hr:W.drew.ownsRow w.heap.size 73 4 (.slice (some ⟨g,0,none⟩) n cap) n (recV lifV L):=h.row
 have hs:=((hr.stored (m*4+2) (.int .i64 (i:Int))).1.stored (m*4+3) (.bool b)).1
 rw [lif_set8 L m i hm b] at hs
 exact ⟨(h.below.drew.setCell (p:=⟨g,m*4+2,none⟩) (by show w.heap.size≤g;omega) _).setCell (p:=⟨g,m*4+3,none⟩) (by show w.heap.size≤g;omega) _,by simp;exact h.size,(o _ (by omega)).trans h.b0,(o _ (by omega)).trans h.bv,h.bm.same (o _ (by omega)),(o _ (by omega)).trans h.bb,(o _ (by omega)).trans h.be,hs,h.far⟩
def YInv (w:World) (sl:Value) (h:List Ev) (pre:List (Fin h.length)) (W:World):Prop :=
 ∃ v,ZSt w 22 sl 204 73 4 sl v pre.length (nfI (lvF h pre)) (lvF h pre).length (recV lifV (lvF h pre)) W
set_option maxHeartbeats 8000000 in
theorem plives8_any (h:List Ev) (v:Value) (w:World) (hT:IsEvs w v h) (hG:∀ x∈h,goodE x) (hn:h.length≤300) :
 Calls Tryz.prog 137 #[v] w fun e w'=>LfRow 73 w (livesL h) e w':=by
 have hT0:=hT
 obtain ⟨a,cap,rfl,h1,h2,h3,HC⟩:=hT.some_at
 clear HC hT
 have hmm:=@run_makeMap Tryz.prog
 obtain ⟨i0,hi,hz0,hz1,hz2⟩:=info_parts lif_info
 refine (callsIn_wide (n:=8)).1 ?_
 refine callsIn_of_wp_marks Tryz.func137 rfl trivial ?_ rfl
 simp only [Tryz.ntmps137,List.size_toArray,List.length_cons,List.length_nil,Nat.reduceAdd,Nat.reduceSub,Array.replicate_succ,Array.replicate_zero,List.push_toArray,List.append_toArray,List.nil_append,List.cons_append]
 gi_wp2_with ((try refine ⟨trivial,?_⟩);gi_at_call 194;refine (callsIn_wide.2 (pliving_any _ _ _ _)).mono ?_;rintro e w2 ⟨rfl,rfl⟩)
 have hS0:ZSt w 22 (.slice a h.length cap) 204 73 4 (.slice a h.length cap) (.slice none 0 0) 0 (nfI []) 0 [] (((((w.alloc (.cells #[.slice a h.length cap] 22)).alloc (.cells #[.slice none 0 0] 204)).alloc (.map #[] 0)).alloc (.cells #[.map (some (w.heap.size+1+1))] 251)).alloc (.cells #[.slice a h.length cap] 22)):=by
  have b0:=((((Boxed.new w 22 (.slice a h.length cap)).alloc (.cells #[.slice none 0 0] 204)).alloc (.map #[] 0)).alloc (.cells #[.map (some (w.heap.size+1+1))] 251)).alloc (.cells #[.slice a h.length cap] 22)
  have b1:=(((Boxed.new (w.alloc (.cells #[.slice a h.length cap] 22)) 204 (.slice none 0 0)).alloc (.map #[] 0)).alloc (.cells #[.map (some (w.heap.size+1+1))] 251)).alloc (.cells #[.slice a h.length cap] 22)
  have b2:=((IMap.made ((w.alloc (.cells #[.slice a h.length cap] 22)).alloc (.cells #[.slice none 0 0] 204))).kept (World.grownBy_alloc _ (.cells #[.map (some (w.heap.size+1+1))] 251) none) (by simp)).kept (World.grownBy_alloc _ (.cells #[.slice a h.length cap] 22) none) (by simp)
  have b3:=(Boxed.new (((w.alloc (.cells #[.slice a h.length cap] 22)).alloc (.cells #[.slice none 0 0] 204)).alloc (.map #[] 0)) 251 (.map (some (w.heap.size+1+1)))).alloc (.cells #[.slice a h.length cap] 22)
  have b4:=Boxed.new ((((w.alloc (.cells #[.slice a h.length cap] 22)).alloc (.cells #[.slice none 0 0] 204)).alloc (.map #[] 0)).alloc (.cells #[.map (some (w.heap.size+1+1))] 251)) 22 (.slice a h.length cap)
  simp only [World.size_alloc] at b0 b1 b2 b3 b4
  exact ⟨(((((Below.refl _ w).alloc (Nat.le_refl _) _).alloc (by simp) _).alloc (by simp;omega) _).alloc (by simp;omega) _).alloc (by simp;omega) _,by simp,b0,b1,b2,b3,b4,World.ownsRow_nil _ _ _ _,fun g hg=>by simp [Value.ownBlock] at hg⟩
 obtain ⟨W0,hW0⟩:∃ W0,(((((w.alloc (.cells #[.slice a h.length cap] 22)).alloc (.cells #[.slice none 0 0] 204)).alloc (.map #[] 0)).alloc (.cells #[.map (some (w.heap.size+1+1))] 251)).alloc (.cells #[.slice a h.length cap] 22))=W0:=⟨_,rfl⟩
 have sW0:W0.heap.size=w.heap.size+1+1+1+1+1:=by rw [← hW0];simp
 change Code.wpIn _ _ _ _ _ _ (((((w.alloc (.cells #[.slice a h.length cap] 22)).alloc (.cells #[.slice none 0 0] 204)).alloc (.map #[] 0)).alloc (.cells #[.map (some (w.heap.size+1+1))] 251)).alloc (.cells #[.slice a h.length cap] 22))
 rw [hW0] at hS0 ⊢
 clear hW0
 refine rangeFunc_C rfl (by omega) (gf:=242) (lb:=#[.pointer (some ⟨w.heap.size+1+1+1+1,0,none⟩)]) rfl trivial (enters_of Tryz.func242 (by kernel_rfl) rfl)
  (Kp:=KpL w.heap.size (w.heap.size+1+1+1+1) (w.heap.size+1+1+1+1+1+1+1)) (H:=w.heap.size+1+1+1+1+1+1+1+1+1+1+1) (S:=fun ys=>ys=livP h) (Sp:=fun pre=>pre <+: livP h) (N:=h.length)
  (fun V hV hs=>by
   have:=living8_stops h w a cap hT0 hG hn (w.heap.size+1+1+1+1) (8 - 1) (W0.heap.size+1) W0 V hS0.below hS0.be hV
   rw [hs,sW0] at this
   rw [sW0]
   exact this) (fun h k=>KpL.trans h k) (fun W o o' h=>by rw [sW0] at h ⊢;exact kpL_put (by omega) (by omega) (by omega) o h o') (fun _=>rfl)
  (YInv w (.slice a h.length cap) h) (fun _ _ _=>False)
  (fun s X Y row ⟨v,hs⟩ hg hr=>⟨v,hs.turn hg (fun r e=>⟨by have:=(hr r e).1;omega,(hr r e).2⟩)⟩)
  (fun _=>ownFrom_false _)
  ⟨_,hS0⟩
  (fun x a' W=>∃ Bx,w.heap.size+1+1+1+1+1+1+1+1+1+1+1≤Bx∧SBox W Bx 64 #[.int .i64 h[x.val].1,.int .i64 h[x.val].2.1,.string ⟨h[x.val].2.2.1.toArray⟩,.string ⟨h[x.val].2.2.2.toArray⟩]∧a'={ tmps:=#[.slice a h.length cap,.pointer (some ⟨w.heap.size,0,none⟩),.slice none 0 0,.pointer (some ⟨w.heap.size+1,0,none⟩),.pointer (some ⟨w.heap.size+1+1+1,0,none⟩),.int .i64 (x.val:Int),.pointer (some ⟨Bx,0,none⟩),undef,undef,.map (some (w.heap.size+1+1)),.slice a h.length cap,livingF (w.heap.size+1+1+1+1),.int .i64 (x.val:Int),evW h[x.val],undef,undef,undef,undef,undef,undef,undef,undef,undef,undef,undef,undef,undef,undef,undef,undef,undef,undef,undef,undef,undef,undef,undef,undef,undef,undef,undef,undef,undef,undef,undef,undef,undef,undef,undef,undef,undef,undef,undef],defers:=[] })
  (fun x a' _ A B row hs hg hr=>by
   obtain ⟨Bx,h1,h2,h4⟩:=hs
   exact ⟨Bx,h1,block_kept h2 hg (fun r e=>(hr r e).2),h4⟩)
  ?assign ?body ?done ?stop
 case assign =>
  rintro l pre x W K ⟨v,hS⟩ hH hK
  have hsz:=hS.size
  have b1:=(Below.refl W.heap.size W).alloc (Nat.le_refl _) (.cells #[.int .i64 h[x.val].1,.int .i64 h[x.val].2.1,.string ⟨h[x.val].2.2.1.toArray⟩,.string ⟨h[x.val].2.2.2.toArray⟩] 64)
  gi_wp2
  refine hK _ _ ((KeepsOthers.alloc _ _).from _) (kpL_bel (by omega) (by omega) (by omega) b1) ⟨v,hS.bel b1⟩ ⟨W.heap.size,by omega,SBox.new W _ _,rfl⟩
 case body =>
  rintro l pre x a' W ⟨v,hS⟩ hH ⟨Bx,hBx,hblk,rfl⟩ hlt
  have HW0:Hid (W0.heap.size=w.heap.size+1+1+1+1+1):=sW0
  clear sW0 hS0
  have hsz:=hS.size
  have hxn:=x.isLt
  have hgx:=hG h[x.val] (List.getElem_mem _)
  obtain ⟨⟨y0,y1,y2,y3⟩,hy⟩:∃ y,h[x.val]=y:=⟨_,rfl⟩
  have HV:Hid (lvF h (pre++[x])=livS h (lvF h pre) x):=lvF_snoc h pre x
  have lenL:=lvF_few h pre
  obtain ⟨L,hs⟩:∃ L,lvF h pre=L:=⟨_,rfl⟩
  rw [hs] at hS lenL HV
  clear hs
  have HS:Hid (livS h L x=if y0=4∨y0=5 then endS (newL h L x) (numL8 h L x) x.val (decide (y0=4)) else newL h L x):=by
   show _=_
   unfold livS
   rw [hy]
  have HNew:Hid (newL h L x=if nf L y1=none then L++[(y1,x.val,h.length,false)] else L):=by
   show _=_
   unfold newL
   rw [hy]
  have HNum:Hid (numL8 h L x=(nf L y1).getD L.length):=by
   show _=_
   unfold numL8
   rw [hy]
  rw [hy] at hblk hgx ⊢
  simp only at hblk hgx
  clear hy
  have ki:=key8i hgx.2.1
  clear hgx
  obtain ⟨i,hxi⟩:∃ i,x.val=i:=⟨_,rfl⟩
  rw [hxi] at hxn HS HNew ⊢
  clear hxi
  have LX:Hid ((pre++[x]).length=pre.length+1):=by show _=_;simp
  have c3:=hS.bb.cell
  have q0:=hblk.cell 0 _ rfl
  have q1:=hblk.cell 1 _ rfl
  have q2:=hblk.cell 2 _ rfl
  have q3:=hblk.cell 3 _ rfl
  obtain ⟨D1,hown1,hD1⟩:=hS.bm
  have hy1:=(hD1 y1).1
  have CE':=fun V=>pends_any y0 y1 y2 y3 V
  cases hf:nf L y1 with
  | some m =>
    have hy2:Maps.has D1 (.int .i64 y1)=true:=by rw [hy1];show ((nf L y1).map Int.ofNat).isSome=_;rw [hf];rfl
    by_cases k4:y0=4
    ·have e4:(y0==4)=true:=by rw [k4];rfl
     have HN:Hid ((y0=4∨y0=5)∧decide (y0=4)=true):=⟨Or.inl k4,decide_eq_true k4⟩
     rw [decide_eq_true (show y0=4∨y0=5 from Or.inl k4)] at CE'
     have CE:=CE' W
     clear k4
     have hat1:=(hD1 y1).2 (m:Int) (by show (nf L y1).map Int.ofNat=_;rw [hf];rfl)
     obtain ⟨m1,m2⟩:=nf_some L y1 m hf
     have HL1:Hid (newL h L x=L):=by show _=_;rw [HNew.out,if_neg (by rw [hf];simp)]
     have HM:Hid (numL8 h L x=m):=by show _=_;rw [HNum.out,hf];rfl
     obtain ⟨L1,hL1⟩:∃ L1,L=L1:=⟨_,rfl⟩
     rw [hL1] at HL1 HM hS m1 lenL
     have ml:m < L1.length:=m1
     have jm:(m:Int) < (L1.length:Int):=by omega
     obtain ⟨g,cp,rfl⟩:∃ g cp,v=.slice (some ⟨g,0,none⟩) L1.length cp:=by
      rcases hS.row.2 with ⟨rfl,h0⟩ | ⟨g,cp,cur,rfl,_⟩
      ·omega
      ·exact ⟨g,cp,rfl⟩
     have hSc:=hS
     have xc:=hblk
     have KKc:=KeepsFrom.refl W0.heap.size W
     have KPc:KpL w.heap.size (w.heap.size+1+1+1+1) (w.heap.size+1+1+1+1+1+1+1) W W:=kpL_bel (by omega) (by omega) (by omega) (Below.refl _ W)
     clear hS hblk hD1 hy1 HNew HNum m1 m2
     rw [hL1] at hf HS HV
     clear hL1 hf
     gi_wp2_with (first
      | (gi_at_lookup;refine wpListIn_lookup_own_ok_int _ rfl _ _ 251 rfl 3 3 .i64 law8i Tryz.underlying251 Tryz.underlying3 (zero8i _) (w.heap.size+1+1) pre.length D1 rfl hown1 _ _ rfl ki ?_;rw [hy2];intro c hc hwc;obtain rfl:c=(m:Int):=(by have:=hc.symm.trans hat1;simpa using this);clear hc hwc)
      | ((try refine ⟨trivial,?_⟩);gi_at_call 195;refine (CallsIn.inRound l (callsIn_wide.2 CE)).mono ?_;rintro e W5 ⟨rfl,b5⟩;refine Hid.out ?_))
     have z5:=b5.size
     have hS5:=hSc.bel b5
     have x5:=xc.below b5
     have KK5:=KKc.trans ((keeps_of_below b5).from W0.heap.size)
     have KP5:=KPc.trans (kpL_bel (by omega) (by omega) (by omega) b5)
     have cv:=hS5.bv.cell
     have q0:=x5.cell 0 _ rfl
     have hgf:=hS5.far g rfl
     have gx:=hS5.row.frozenAt (m*4+2)
     have gy:=hS5.row.frozenAt (m*4+3)
     have ca:=life_cell hS5.row ml 2 (by rw [lifV_len];omega)
     have cb:=life_cell hS5.row ml 3 (by rw [lifV_len];omega)
     simp only [lifV,List.getElem_cons_succ,List.getElem_cons_zero] at ca cb
     have cb':(W5.setCell ⟨g,m*4+2,none⟩ (.int .i64 (i:Int))).cell? ⟨g,m*4+3,none⟩=some (.bool L1[m].2.2.2):=by rw [World.cell?_setCell_other _ _ _ _ (by simp)];exact cb
     have r1c:(W5.drew.setCell ⟨g,m*4+2,none⟩ (.int .i64 (i:Int))).cell? ⟨w.heap.size+1,0,none⟩=some (.slice (some ⟨g,0,none⟩) L1.length cp):=by rw [World.cell?_setCell_other _ _ _ _ (by first | (simp;done) | (simp;omega))];exact cv
     have r2c:(W5.drew.setCell ⟨g,m*4+2,none⟩ (.int .i64 (i:Int))).cell? ⟨Bx,0,none⟩=some (.int .i64 y0):=by rw [World.cell?_setCell_other _ _ _ _ (by first | (simp;done) | (simp;omega))];exact q0
     have HF:Hid (KeepsFrom W0.heap.size W ((W5.drew.setCell ⟨g,m*4+2,none⟩ (.int .i64 (i:Int))).setCell ⟨g,m*4+3,none⟩ (.bool true))∧KpL w.heap.size (w.heap.size+1+1+1+1) (w.heap.size+1+1+1+1+1+1+1) W ((W5.drew.setCell ⟨g,m*4+2,none⟩ (.int .i64 (i:Int))).setCell ⟨g,m*4+3,none⟩ (.bool true))∧YInv w (.slice a h.length cap) h (pre++[x]) ((W5.drew.setCell ⟨g,m*4+2,none⟩ (.int .i64 (i:Int))).setCell ⟨g,m*4+3,none⟩ (.bool true))):=by
      refine ⟨((KK5.trans ((KeepsOthers.drew _).from _)).trans ((KeepsOthers.setCell _ _ _).from _)).trans ((KeepsOthers.setCell _ _ _).from _),KP5.trans (kpL_set2 (by omega) (by omega) (by omega) g _ _ _ _ (by omega) (by omega) (by omega)),.slice (some ⟨g,0,none⟩) L1.length cp,?_⟩
      have e:lvF h (pre++[x])=endS L1 m i true:=by rw [HV.out,HS.out,if_pos HN.out.1,HL1.out,HM.out,HN.out.2]
      rw [e,LX.out,endS_nfI,endS_len]
      refine ZSt.keep (m:=pre.length+1) ?_ (Nat.le_refl _) rfl
      exact (hS5.keep (m':=pre.length+1) (by omega) rfl).fin8 ml i true
     clear hS5 hSc KK5 KP5 KKc KPc x5 xc HV HS HL1 HM HN
     refine Lib.hid ?_
     gi_wp2
     refine regionIn_any (by kernel_rfl) (fun ⟨_,_,h⟩=>h) (by kernel_rfl) ?_
     refine any_of_C (C:=fun V=>V.cell? ⟨w.heap.size+1,0,none⟩=some (.slice (some ⟨g,0,none⟩) L1.length cp)∧V.cell? ⟨Bx,0,none⟩=some (.int .i64 y0)) 12 _ _ _ _ ?_
     refine takeC (i:=0) (v:=.slice (some ⟨g,0,none⟩) L1.length cp) rfl (by kernel_rfl) (by kernel_rfl) (by kernel_rfl) (by kernel_rfl) (by kernel_rfl) (fun _ _ _ h=>h) (Or.inl ⟨by kernel_rfl,fun V hV=>by obtain ⟨r0,r1⟩:=hV;go_simp⟩) ?_
     refine takeC (i:=1) (v:=.int .i64 (m:Int)) rfl (by kernel_rfl) (by kernel_rfl) (by kernel_rfl) (by kernel_rfl) (by kernel_rfl) (fun _ _ _ h=>h) (Or.inl ⟨by kernel_rfl,fun V hV=>by obtain ⟨r0,r1⟩:=hV;go_simp⟩) ?_
     refine takeC (i:=2) (v:=.slice (some ⟨g,0,none⟩) L1.length cp) rfl (by kernel_rfl) (by kernel_rfl) (by kernel_rfl) (by kernel_rfl) (by kernel_rfl) (fun _ _ _ h=>h) (Or.inl ⟨by kernel_rfl,fun V hV=>by obtain ⟨r0,r1⟩:=hV;go_simp⟩) ?_
     refine takeC (i:=3) (v:=.int .i64 (m:Int)) rfl (by kernel_rfl) (by kernel_rfl) (by kernel_rfl) (by kernel_rfl) (by kernel_rfl) (fun _ _ _ h=>h) (Or.inl ⟨by kernel_rfl,fun V hV=>by obtain ⟨r0,r1⟩:=hV;go_simp⟩) ?_
     refine takeC (i:=4) (v:=.int .i64 (i:Int)) rfl (by kernel_rfl) (by kernel_rfl) (by kernel_rfl) (by kernel_rfl) (by kernel_rfl) (fun _ _ _ h=>h) (Or.inl ⟨by kernel_rfl,fun V hV=>by obtain ⟨r0,r1⟩:=hV;go_simp⟩) ?_
     refine takeC (i:=5) (v:=.pointer (some ⟨Bx,0,none⟩)) rfl (by kernel_rfl) (by kernel_rfl) (by kernel_rfl) (by kernel_rfl) (by kernel_rfl) (fun _ _ _ h=>h) (Or.inl ⟨by kernel_rfl,fun V hV=>by obtain ⟨r0,r1⟩:=hV;go_simp⟩) ?_
     refine takeC (i:=6) (v:=.int .i64 y0) rfl (by kernel_rfl) (by kernel_rfl) (by kernel_rfl) (by kernel_rfl) (by kernel_rfl) (fun _ _ _ h=>h) (Or.inl ⟨by kernel_rfl,fun V hV=>by obtain ⟨r0,r1⟩:=hV;go_simp⟩) ?_
     refine takeC (i:=7) (v:=.bool true) rfl (by kernel_rfl) (by kernel_rfl) (by kernel_rfl) (by kernel_rfl) (by kernel_rfl) (fun _ _ _ h=>h) (Or.inl ⟨by kernel_rfl,fun V hV=>by obtain ⟨r0,r1⟩:=hV;go_simp⟩) ?_
     refine takeC (i:=8) (v:=.pointer (some ⟨g,m*4,none⟩)) rfl (by kernel_rfl) (by kernel_rfl) (by kernel_rfl) (by kernel_rfl) (by kernel_rfl) (fun _ _ _ h=>h) (Or.inl ⟨by kernel_rfl,fun V hV=>by obtain ⟨r0,r1⟩:=hV;go_simp⟩) ?_
     refine takeC (i:=9) (v:=.pointer (some ⟨g,m*4+2,none⟩)) rfl (by kernel_rfl) (by kernel_rfl) (by kernel_rfl) (by kernel_rfl) (by kernel_rfl) (fun _ _ _ h=>h) (Or.inl ⟨by kernel_rfl,fun V hV=>by obtain ⟨r0,r1⟩:=hV;go_simp⟩) ?_
     refine consC (i:=10) (by kernel_rfl) (by kernel_rfl) ⟨cv,q0⟩ rfl (fun K' hK=>?_)
     go_wp2_with fail
     refine takeC (i:=11) (v:=.pointer (some ⟨g,m*4,none⟩)) rfl (by kernel_rfl) (by kernel_rfl) (by kernel_rfl) (by kernel_rfl) (by kernel_rfl) (fun _ _ _ h=>h) (Or.inl ⟨by kernel_rfl,fun V hV=>by obtain ⟨r0,r1⟩:=hV;go_simp⟩) ?_
     refine lastC (by kernel_rfl) (by kernel_rfl) ⟨r1c,r2c⟩ (of_decide_eq_true (by kernel_rfl)) ?_
     refine any_seqI [12,13] [_,_] _ _ _ rfl (by kernel_rfl) ?_
     go_wp2_with fail
     exact HF.out
    ·have e4:(y0==4)=false:=beq_eq_false_iff_ne.2 k4
     by_cases k5:y0=5
     ·have HN:Hid ((y0=4∨y0=5)∧decide (y0=4)=false):=⟨Or.inr k5,decide_eq_false k4⟩
      rw [decide_eq_true (show y0=4∨y0=5 from Or.inr k5)] at CE'
      have CE:=CE' W
      clear k4 k5
      have hat1:=(hD1 y1).2 (m:Int) (by show (nf L y1).map Int.ofNat=_;rw [hf];rfl)
      obtain ⟨m1,m2⟩:=nf_some L y1 m hf
      have HL1:Hid (newL h L x=L):=by show _=_;rw [HNew.out,if_neg (by rw [hf];simp)]
      have HM:Hid (numL8 h L x=m):=by show _=_;rw [HNum.out,hf];rfl
      obtain ⟨L1,hL1⟩:∃ L1,L=L1:=⟨_,rfl⟩
      rw [hL1] at HL1 HM hS m1 lenL
      have ml:m < L1.length:=m1
      have jm:(m:Int) < (L1.length:Int):=by omega
      obtain ⟨g,cp,rfl⟩:∃ g cp,v=.slice (some ⟨g,0,none⟩) L1.length cp:=by
       rcases hS.row.2 with ⟨rfl,h0⟩ | ⟨g,cp,cur,rfl,_⟩
       ·omega
       ·exact ⟨g,cp,rfl⟩
      have hSc:=hS
      have xc:=hblk
      have KKc:=KeepsFrom.refl W0.heap.size W
      have KPc:KpL w.heap.size (w.heap.size+1+1+1+1) (w.heap.size+1+1+1+1+1+1+1) W W:=kpL_bel (by omega) (by omega) (by omega) (Below.refl _ W)
      clear hS hblk hD1 hy1 HNew HNum m1 m2
      rw [hL1] at hf HS HV
      clear hL1 hf
      gi_wp2_with (first
       | (gi_at_lookup;refine wpListIn_lookup_own_ok_int _ rfl _ _ 251 rfl 3 3 .i64 law8i Tryz.underlying251 Tryz.underlying3 (zero8i _) (w.heap.size+1+1) pre.length D1 rfl hown1 _ _ rfl ki ?_;rw [hy2];intro c hc hwc;obtain rfl:c=(m:Int):=(by have:=hc.symm.trans hat1;simpa using this);clear hc hwc)
       | ((try refine ⟨trivial,?_⟩);gi_at_call 195;refine (CallsIn.inRound l (callsIn_wide.2 CE)).mono ?_;rintro e W5 ⟨rfl,b5⟩;refine Hid.out ?_))
      have z5:=b5.size
      have hS5:=hSc.bel b5
      have x5:=xc.below b5
      have KK5:=KKc.trans ((keeps_of_below b5).from W0.heap.size)
      have KP5:=KPc.trans (kpL_bel (by omega) (by omega) (by omega) b5)
      have cv:=hS5.bv.cell
      have q0:=x5.cell 0 _ rfl
      have hgf:=hS5.far g rfl
      have gx:=hS5.row.frozenAt (m*4+2)
      have gy:=hS5.row.frozenAt (m*4+3)
      have ca:=life_cell hS5.row ml 2 (by rw [lifV_len];omega)
      have cb:=life_cell hS5.row ml 3 (by rw [lifV_len];omega)
      simp only [lifV,List.getElem_cons_succ,List.getElem_cons_zero] at ca cb
      have cb':(W5.setCell ⟨g,m*4+2,none⟩ (.int .i64 (i:Int))).cell? ⟨g,m*4+3,none⟩=some (.bool L1[m].2.2.2):=by rw [World.cell?_setCell_other _ _ _ _ (by simp)];exact cb
      have r1c:(W5.drew.setCell ⟨g,m*4+2,none⟩ (.int .i64 (i:Int))).cell? ⟨w.heap.size+1,0,none⟩=some (.slice (some ⟨g,0,none⟩) L1.length cp):=by rw [World.cell?_setCell_other _ _ _ _ (by first | (simp;done) | (simp;omega))];exact cv
      have r2c:(W5.drew.setCell ⟨g,m*4+2,none⟩ (.int .i64 (i:Int))).cell? ⟨Bx,0,none⟩=some (.int .i64 y0):=by rw [World.cell?_setCell_other _ _ _ _ (by first | (simp;done) | (simp;omega))];exact q0
      have HF:Hid (KeepsFrom W0.heap.size W ((W5.drew.setCell ⟨g,m*4+2,none⟩ (.int .i64 (i:Int))).setCell ⟨g,m*4+3,none⟩ (.bool false))∧KpL w.heap.size (w.heap.size+1+1+1+1) (w.heap.size+1+1+1+1+1+1+1) W ((W5.drew.setCell ⟨g,m*4+2,none⟩ (.int .i64 (i:Int))).setCell ⟨g,m*4+3,none⟩ (.bool false))∧YInv w (.slice a h.length cap) h (pre++[x]) ((W5.drew.setCell ⟨g,m*4+2,none⟩ (.int .i64 (i:Int))).setCell ⟨g,m*4+3,none⟩ (.bool false))):=by
       refine ⟨((KK5.trans ((KeepsOthers.drew _).from _)).trans ((KeepsOthers.setCell _ _ _).from _)).trans ((KeepsOthers.setCell _ _ _).from _),KP5.trans (kpL_set2 (by omega) (by omega) (by omega) g _ _ _ _ (by omega) (by omega) (by omega)),.slice (some ⟨g,0,none⟩) L1.length cp,?_⟩
       have e:lvF h (pre++[x])=endS L1 m i false:=by rw [HV.out,HS.out,if_pos HN.out.1,HL1.out,HM.out,HN.out.2]
       rw [e,LX.out,endS_nfI,endS_len]
       refine ZSt.keep (m:=pre.length+1) ?_ (Nat.le_refl _) rfl
       exact (hS5.keep (m':=pre.length+1) (by omega) rfl).fin8 ml i false
      clear hS5 hSc KK5 KP5 KKc KPc x5 xc HV HS HL1 HM HN
      refine Lib.hid ?_
      gi_wp2
      refine regionIn_any (by kernel_rfl) (fun ⟨_,_,h⟩=>h) (by kernel_rfl) ?_
      refine any_of_C (C:=fun V=>V.cell? ⟨w.heap.size+1,0,none⟩=some (.slice (some ⟨g,0,none⟩) L1.length cp)∧V.cell? ⟨Bx,0,none⟩=some (.int .i64 y0)) 12 _ _ _ _ ?_
      refine takeC (i:=0) (v:=.slice (some ⟨g,0,none⟩) L1.length cp) rfl (by kernel_rfl) (by kernel_rfl) (by kernel_rfl) (by kernel_rfl) (by kernel_rfl) (fun _ _ _ h=>h) (Or.inl ⟨by kernel_rfl,fun V hV=>by obtain ⟨r0,r1⟩:=hV;go_simp⟩) ?_
      refine takeC (i:=1) (v:=.int .i64 (m:Int)) rfl (by kernel_rfl) (by kernel_rfl) (by kernel_rfl) (by kernel_rfl) (by kernel_rfl) (fun _ _ _ h=>h) (Or.inl ⟨by kernel_rfl,fun V hV=>by obtain ⟨r0,r1⟩:=hV;go_simp⟩) ?_
      refine takeC (i:=2) (v:=.slice (some ⟨g,0,none⟩) L1.length cp) rfl (by kernel_rfl) (by kernel_rfl) (by kernel_rfl) (by kernel_rfl) (by kernel_rfl) (fun _ _ _ h=>h) (Or.inl ⟨by kernel_rfl,fun V hV=>by obtain ⟨r0,r1⟩:=hV;go_simp⟩) ?_
      refine takeC (i:=3) (v:=.int .i64 (m:Int)) rfl (by kernel_rfl) (by kernel_rfl) (by kernel_rfl) (by kernel_rfl) (by kernel_rfl) (fun _ _ _ h=>h) (Or.inl ⟨by kernel_rfl,fun V hV=>by obtain ⟨r0,r1⟩:=hV;go_simp⟩) ?_
      refine takeC (i:=4) (v:=.int .i64 (i:Int)) rfl (by kernel_rfl) (by kernel_rfl) (by kernel_rfl) (by kernel_rfl) (by kernel_rfl) (fun _ _ _ h=>h) (Or.inl ⟨by kernel_rfl,fun V hV=>by obtain ⟨r0,r1⟩:=hV;go_simp⟩) ?_
      refine takeC (i:=5) (v:=.pointer (some ⟨Bx,0,none⟩)) rfl (by kernel_rfl) (by kernel_rfl) (by kernel_rfl) (by kernel_rfl) (by kernel_rfl) (fun _ _ _ h=>h) (Or.inl ⟨by kernel_rfl,fun V hV=>by obtain ⟨r0,r1⟩:=hV;go_simp⟩) ?_
      refine takeC (i:=6) (v:=.int .i64 y0) rfl (by kernel_rfl) (by kernel_rfl) (by kernel_rfl) (by kernel_rfl) (by kernel_rfl) (fun _ _ _ h=>h) (Or.inl ⟨by kernel_rfl,fun V hV=>by obtain ⟨r0,r1⟩:=hV;go_simp⟩) ?_
      refine takeC (i:=7) (v:=.bool false) rfl (by kernel_rfl) (by kernel_rfl) (by kernel_rfl) (by kernel_rfl) (by kernel_rfl) (fun _ _ _ h=>h) (Or.inl ⟨by kernel_rfl,fun V hV=>by obtain ⟨r0,r1⟩:=hV;go_simp⟩) ?_
      refine takeC (i:=8) (v:=.pointer (some ⟨g,m*4,none⟩)) rfl (by kernel_rfl) (by kernel_rfl) (by kernel_rfl) (by kernel_rfl) (by kernel_rfl) (fun _ _ _ h=>h) (Or.inl ⟨by kernel_rfl,fun V hV=>by obtain ⟨r0,r1⟩:=hV;go_simp⟩) ?_
      refine takeC (i:=9) (v:=.pointer (some ⟨g,m*4+2,none⟩)) rfl (by kernel_rfl) (by kernel_rfl) (by kernel_rfl) (by kernel_rfl) (by kernel_rfl) (fun _ _ _ h=>h) (Or.inl ⟨by kernel_rfl,fun V hV=>by obtain ⟨r0,r1⟩:=hV;go_simp⟩) ?_
      refine consC (i:=10) (by kernel_rfl) (by kernel_rfl) ⟨cv,q0⟩ rfl (fun K' hK=>?_)
      go_wp2_with fail
      refine takeC (i:=11) (v:=.pointer (some ⟨g,m*4,none⟩)) rfl (by kernel_rfl) (by kernel_rfl) (by kernel_rfl) (by kernel_rfl) (by kernel_rfl) (fun _ _ _ h=>h) (Or.inl ⟨by kernel_rfl,fun V hV=>by obtain ⟨r0,r1⟩:=hV;go_simp⟩) ?_
      refine lastC (by kernel_rfl) (by kernel_rfl) ⟨r1c,r2c⟩ (of_decide_eq_true (by kernel_rfl)) ?_
      refine any_seqI [12,13] [_,_] _ _ _ rfl (by kernel_rfl) ?_
      go_wp2_with fail
      exact HF.out
     ·have HN:Hid (¬ (y0=4∨y0=5)):=fun hh=>hh.elim k4 k5
      rw [decide_eq_false (show ¬ (y0=4∨y0=5) from fun hh=>hh.elim k4 k5)] at CE'
      have CE:=CE' W
      clear k4 k5
      have hat1:=(hD1 y1).2 (m:Int) (by show (nf L y1).map Int.ofNat=_;rw [hf];rfl)
      obtain ⟨m1,m2⟩:=nf_some L y1 m hf
      have HL1:Hid (newL h L x=L):=by show _=_;rw [HNew.out,if_neg (by rw [hf];simp)]
      have HM:Hid (numL8 h L x=m):=by show _=_;rw [HNum.out,hf];rfl
      obtain ⟨L1,hL1⟩:∃ L1,L=L1:=⟨_,rfl⟩
      rw [hL1] at HL1 HM hS m1 lenL
      have ml:m < L1.length:=m1
      have jm:(m:Int) < (L1.length:Int):=by omega
      obtain ⟨g,cp,rfl⟩:∃ g cp,v=.slice (some ⟨g,0,none⟩) L1.length cp:=by
       rcases hS.row.2 with ⟨rfl,h0⟩ | ⟨g,cp,cur,rfl,_⟩
       ·omega
       ·exact ⟨g,cp,rfl⟩
      have hSc:=hS
      have xc:=hblk
      have KKc:=KeepsFrom.refl W0.heap.size W
      have KPc:KpL w.heap.size (w.heap.size+1+1+1+1) (w.heap.size+1+1+1+1+1+1+1) W W:=kpL_bel (by omega) (by omega) (by omega) (Below.refl _ W)
      clear hS hblk hD1 hy1 HNew HNum m1 m2
      rw [hL1] at hf HS HV
      clear hL1 hf
      gi_wp2_with (first
       | (gi_at_lookup;refine wpListIn_lookup_own_ok_int _ rfl _ _ 251 rfl 3 3 .i64 law8i Tryz.underlying251 Tryz.underlying3 (zero8i _) (w.heap.size+1+1) pre.length D1 rfl hown1 _ _ rfl ki ?_;rw [hy2];intro c hc hwc;obtain rfl:c=(m:Int):=(by have:=hc.symm.trans hat1;simpa using this);clear hc hwc)
       | ((try refine ⟨trivial,?_⟩);gi_at_call 195;refine (CallsIn.inRound l (callsIn_wide.2 CE)).mono ?_;rintro e W5 ⟨rfl,b5⟩;refine Hid.out ?_))
      have z5:=b5.size
      have hS5:=hSc.bel b5
      have x5:=xc.below b5
      have KK5:=KKc.trans ((keeps_of_below b5).from W0.heap.size)
      have KP5:=KPc.trans (kpL_bel (by omega) (by omega) (by omega) b5)
      have HF:Hid (KeepsFrom W0.heap.size W W5∧KpL w.heap.size (w.heap.size+1+1+1+1) (w.heap.size+1+1+1+1+1+1+1) W W5∧YInv w (.slice a h.length cap) h (pre++[x]) W5):=by
       refine ⟨KK5,KP5,.slice (some ⟨g,0,none⟩) L1.length cp,?_⟩
       have e:lvF h (pre++[x])=L1:=by rw [HV.out,HS.out,if_neg HN.out,HL1.out]
       rw [e,LX.out]
       exact hS5.keep (by omega) rfl
      clear hS5 hSc KK5 KP5 KKc KPc x5 xc HV HS HL1
      refine Lib.hid ?_
      gi_wp2
      exact HF.out
  | none =>
    have hy2:Maps.has D1 (.int .i64 y1)=false:=by rw [hy1];show ((nf L y1).map Int.ofNat).isSome=_;rw [hf];rfl
    by_cases k4:y0=4
    ·have e4:(y0==4)=true:=by rw [k4];rfl
     have HN:Hid ((y0=4∨y0=5)∧decide (y0=4)=true):=⟨Or.inl k4,decide_eq_true k4⟩
     rw [decide_eq_true (show y0=4∨y0=5 from Or.inl k4)] at CE'
     have CE:=CE' W
     clear k4
     have HL1:Hid (newL h L x=L++[(y1,i,h.length,false)]):=by show _=_;rw [HNew.out,if_pos hf]
     have HM:Hid (numL8 h L x=L.length):=by show _=_;rw [HNum.out,hf];rfl
     have HU:Hid (updI (nfI L) y1 (L.length:Int)=nfI (L++[(y1,i,h.length,false)])):=nfI_snoc L y1 i h.length hf
     obtain ⟨gv,cp0,rfl,hcp⟩:=own_slice9 hS.row
     have cv0:=hS.bv.cell
     have c0:=hS.b0.cell
     have hLlen:(L.length:Int)≤300:=by omega
     clear hy1
     gi_wp2_with (first
      | (gi_at_lookup;refine wpListIn_lookup_own_ok_int _ rfl _ _ 251 rfl 3 3 .i64 law8i Tryz.underlying251 Tryz.underlying3 (zero8i _) (w.heap.size+1+1) pre.length D1 rfl hown1 _ _ rfl ki ?_;rw [hy2];intro c hc hwc;clear hc hwc)
      | (gi_at_mapUpdate;refine wpListIn_mapUpdate_own _ rfl _ _ _ 251 rfl 3 3 law8i Tryz.underlying251 _ (w.heap.size+1+1) pre.length D1 rfl hown1 (by unfold maxLen;omega) _ _ _ rfl rfl ki _ [] (plainElem_int Tryz.underlying3 (WalkArith.wf_i64 (by omega))) ?_;intro W1 hown2 hg2;refine Hid.out ?_))
     have hS1:=hS.map hg2 (IMap.put hD1 hown1.isMap y1 (L.length:Int) hown2)
     have x1:SBox W1 Bx 64 _:=(hg2.block Bx hblk.lt (fun e=>by have:=Option.some.inj e;omega)).trans hblk
     have z1:=hg2.size
     have KK1:KeepsFrom W0.heap.size W W1:=by
      have hw0:=HW0.out
      exact KeepsFrom.of_grownBy hg2 (fun j e=>by cases e;omega)
     have KP1:KpL w.heap.size (w.heap.size+1+1+1+1) (w.heap.size+1+1+1+1+1+1+1) W W1:=kpL_grown (by omega) (by omega) (by omega) hg2 (fun r e=>by cases e;omega)
     have d1:=x1.cell 1 _ rfl
     have cv1:=hS1.bv.cell
     have gv1:=hS1.bv.frozen
     have ch1:=hS1.b0.cell
     have hrow:=hS1.row
     clear hS hblk hown1 hown2 hD1 hg2 q0 q1 q2 q3 c0 cv0 c3
     refine Lib.hid ?_
     gi_wp2_with (gi_at_builtin;refine wpListIn_append_own_at _ rfl _ _ 204 rfl w.heap.size 73 i0 (.agg #[.int .i64 0,.int .i64 0,.int .i64 0,.bool false]) 4 32 Tryz.underlying204 hi hz0 hz1 hz2 rfl (by decide) _ _ _ rfl (hrow.alloc _) ⟨W1.heap.size,0,none⟩ 1 1 [.int .i64 y1,.int .i64 (i:Int),.int .i64 (h.length:Int),.bool false] rfl rfl ?a1b4 ?a2b4 ?a3b4 ?a4b4 ?a5b4 ?_)
     case a1b4=>intro j u hj;match j,hj with
      | 0,hj=>simp at hj;subst hj;simp [Addr.add]
      | 1,hj=>simp at hj;subst hj;simp [Addr.add]
      | 2,hj=>simp at hj;subst hj;simp [Addr.add]
      | 3,hj=>simp at hj;subst hj;simp [Addr.add]
     case a2b4=>intro u hu;simp at hu;rcases hu with rfl | rfl | rfl | rfl<;>rfl
     case a3b4=>unfold maxLen;omega
     case a4b4=>omega
     case a5b4=>simp;omega
     intro v' W2 hown2 hg2 _ hat2
     obtain ⟨g,cp,rfl⟩:=ownsRow_succ hown2
     have hS2:=hS1.app (by omega) hown2 hg2 hat2
     have bv2:=(hS1.bv.alloc (.cells #[.int .i64 y1,.int .i64 (i:Int),.int .i64 (h.length:Int),.bool false] 73)).kept hg2 (fun e=>by have:=hS1.far _ e.symm;omega)
     have cv2:=bv2.cell
     have gv2:=bv2.frozen
     have z2:=hg2.size
     rw [World.size_alloc] at z2
     have x2:SBox W2 Bx 64 #[.int .i64 y0,.int .i64 y1,.string ⟨y2.toArray⟩,.string ⟨y3.toArray⟩]:=(hg2.block Bx (x1.alloc (.cells #[.int .i64 y1,.int .i64 (i:Int),.int .i64 (h.length:Int),.bool false] 73)).lt (fun e=>by have:=hS1.far Bx e.symm;exact row_not_box8 x1 hrow (by decide) e)).trans (x1.alloc (.cells #[.int .i64 y1,.int .i64 (i:Int),.int .i64 (h.length:Int),.bool false] 73))
     have KK2:=(KK1.trans ((KeepsOthers.alloc W1 (.cells #[.int .i64 y1,.int .i64 (i:Int),.int .i64 (h.length:Int),.bool false] 73)).from _)).trans ((keeps_row (hrow.alloc (.cells #[.int .i64 y1,.int .i64 (i:Int),.int .i64 (h.length:Int),.bool false] 73)) hg2).from _)
     have KP2:=(KP1.trans (kpL_bel (by omega) (by omega) (by omega) ((Below.refl W1.heap.size W1).alloc (Nat.le_refl _) (.cells #[.int .i64 y1,.int .i64 (i:Int),.int .i64 (h.length:Int),.bool false] 73)))).trans (kpL_grown (by simp;omega) (by simp;omega) (by simp;omega) hg2 (fun r e=>by have:=hS1.far r e;omega))
     obtain ⟨L1,hL1⟩:∃ L1,L++[(y1,i,h.length,false)]=L1:=⟨_,rfl⟩
     have hl1:L.length+1=L1.length:=by rw [← hL1];simp
     obtain ⟨m,hmL⟩:∃ m,L.length=m:=⟨_,rfl⟩
     have hSc:ZSt w 22 (.slice a h.length cap) 204 73 4 (.slice a h.length cap) (.slice (some ⟨g,0,none⟩) L1.length cp) (pre.length+1) (nfI L1) L1.length (recV lifV L1) (W2.setCell ⟨w.heap.size+1,0,none⟩ (.slice (some ⟨g,0,none⟩) L1.length cp)):=by
      rw [← hl1,← hL1,← HU.out,recL_snoc]
      exact hS2
     rw [hL1] at HL1
     rw [hmL] at HM hl1 lenL
     rw [show L.length+1=L1.length by omega] at *
     have ml:m < L1.length:=by omega
     have jm:(m:Int) < (L1.length:Int):=by omega
     obtain ⟨Wc,hWc⟩:∃ Wc,W2.setCell ⟨w.heap.size+1,0,none⟩ (.slice (some ⟨g,0,none⟩) L1.length cp)=Wc:=⟨_,rfl⟩
     have xc:SBox Wc Bx 64 #[.int .i64 y0,.int .i64 y1,.string ⟨y2.toArray⟩,.string ⟨y3.toArray⟩]:=by rw [← hWc];exact x2.other _ _ _ (by omega)
     have KKc:KeepsFrom W0.heap.size W Wc:=by rw [← hWc];exact KK2.trans ((KeepsOthers.setCell _ _ _).from _)
     have KPc:KpL w.heap.size (w.heap.size+1+1+1+1) (w.heap.size+1+1+1+1+1+1+1) W Wc:=by rw [← hWc];exact KP2.trans (kpL_grown (by omega) (by omega) (by omega) (grownBy_setCell' _ _ _) (fun r e=>by cases e;omega))
     have zc:Wc.heap.size=W2.heap.size:=by rw [← hWc];simp
     rw [hWc] at hSc
     have q0c:=xc.cell 0 _ rfl
     have q1c:=xc.cell 1 _ rfl
     have q2c:=xc.cell 2 _ rfl
     have q3c:=xc.cell 3 _ rfl
     have CC:=CE' Wc
     clear hS1 hS2 hown2 KK1 KP1 KK2 KP2 HNew HNum x1 x2 hat2 hrow HU bv2
     clear hL1
     gi_wp2_with ((try refine ⟨trivial,?_⟩);gi_at_call 195;refine (CallsIn.inRound l (callsIn_wide.2 CC)).mono ?_;rintro e W5 ⟨rfl,b5⟩;refine Hid.out ?_)
     have z5:=b5.size
     have hS5:=hSc.bel b5
     have x5:=xc.below b5
     have KK5:=KKc.trans ((keeps_of_below b5).from W0.heap.size)
     have KP5:=KPc.trans (kpL_bel (by omega) (by omega) (by omega) b5)
     have cv:=hS5.bv.cell
     have q0:=x5.cell 0 _ rfl
     have hgf:=hS5.far g rfl
     have gx:=hS5.row.frozenAt (m*4+2)
     have gy:=hS5.row.frozenAt (m*4+3)
     have ca:=life_cell hS5.row ml 2 (by rw [lifV_len];omega)
     have cb:=life_cell hS5.row ml 3 (by rw [lifV_len];omega)
     simp only [lifV,List.getElem_cons_succ,List.getElem_cons_zero] at ca cb
     have cb':(W5.setCell ⟨g,m*4+2,none⟩ (.int .i64 (i:Int))).cell? ⟨g,m*4+3,none⟩=some (.bool L1[m].2.2.2):=by rw [World.cell?_setCell_other _ _ _ _ (by simp)];exact cb
     have r1c:(W5.drew.setCell ⟨g,m*4+2,none⟩ (.int .i64 (i:Int))).cell? ⟨w.heap.size+1,0,none⟩=some (.slice (some ⟨g,0,none⟩) L1.length cp):=by rw [World.cell?_setCell_other _ _ _ _ (by first | (simp;done) | (simp;omega))];exact cv
     have r2c:(W5.drew.setCell ⟨g,m*4+2,none⟩ (.int .i64 (i:Int))).cell? ⟨Bx,0,none⟩=some (.int .i64 y0):=by rw [World.cell?_setCell_other _ _ _ _ (by first | (simp;done) | (simp;omega))];exact q0
     have HF:Hid (KeepsFrom W0.heap.size W ((W5.drew.setCell ⟨g,m*4+2,none⟩ (.int .i64 (i:Int))).setCell ⟨g,m*4+3,none⟩ (.bool true))∧KpL w.heap.size (w.heap.size+1+1+1+1) (w.heap.size+1+1+1+1+1+1+1) W ((W5.drew.setCell ⟨g,m*4+2,none⟩ (.int .i64 (i:Int))).setCell ⟨g,m*4+3,none⟩ (.bool true))∧YInv w (.slice a h.length cap) h (pre++[x]) ((W5.drew.setCell ⟨g,m*4+2,none⟩ (.int .i64 (i:Int))).setCell ⟨g,m*4+3,none⟩ (.bool true))):=by
      refine ⟨((KK5.trans ((KeepsOthers.drew _).from _)).trans ((KeepsOthers.setCell _ _ _).from _)).trans ((KeepsOthers.setCell _ _ _).from _),KP5.trans (kpL_set2 (by omega) (by omega) (by omega) g _ _ _ _ (by omega) (by omega) (by omega)),.slice (some ⟨g,0,none⟩) L1.length cp,?_⟩
      have e:lvF h (pre++[x])=endS L1 m i true:=by rw [HV.out,HS.out,if_pos HN.out.1,HL1.out,HM.out,HN.out.2]
      rw [e,LX.out,endS_nfI,endS_len]
      refine ZSt.keep (m:=pre.length+1) ?_ (Nat.le_refl _) rfl
      exact (hS5.keep (m':=pre.length+1) (by omega) rfl).fin8 ml i true
     clear hS5 hSc KK5 KP5 KKc KPc x5 xc HV HS HL1 HM HN
     refine Lib.hid ?_
     gi_wp2
     refine regionIn_any (by kernel_rfl) (fun ⟨_,_,h⟩=>h) (by kernel_rfl) ?_
     refine any_of_C (C:=fun V=>V.cell? ⟨w.heap.size+1,0,none⟩=some (.slice (some ⟨g,0,none⟩) L1.length cp)∧V.cell? ⟨Bx,0,none⟩=some (.int .i64 y0)) 12 _ _ _ _ ?_
     refine takeC (i:=0) (v:=.slice (some ⟨g,0,none⟩) L1.length cp) rfl (by kernel_rfl) (by kernel_rfl) (by kernel_rfl) (by kernel_rfl) (by kernel_rfl) (fun _ _ _ h=>h) (Or.inl ⟨by kernel_rfl,fun V hV=>by obtain ⟨r0,r1⟩:=hV;go_simp⟩) ?_
     refine takeC (i:=1) (v:=.int .i64 (m:Int)) rfl (by kernel_rfl) (by kernel_rfl) (by kernel_rfl) (by kernel_rfl) (by kernel_rfl) (fun _ _ _ h=>h) (Or.inl ⟨by kernel_rfl,fun V hV=>by obtain ⟨r0,r1⟩:=hV;go_simp⟩) ?_
     refine takeC (i:=2) (v:=.slice (some ⟨g,0,none⟩) L1.length cp) rfl (by kernel_rfl) (by kernel_rfl) (by kernel_rfl) (by kernel_rfl) (by kernel_rfl) (fun _ _ _ h=>h) (Or.inl ⟨by kernel_rfl,fun V hV=>by obtain ⟨r0,r1⟩:=hV;go_simp⟩) ?_
     refine takeC (i:=3) (v:=.int .i64 (m:Int)) rfl (by kernel_rfl) (by kernel_rfl) (by kernel_rfl) (by kernel_rfl) (by kernel_rfl) (fun _ _ _ h=>h) (Or.inl ⟨by kernel_rfl,fun V hV=>by obtain ⟨r0,r1⟩:=hV;go_simp⟩) ?_
     refine takeC (i:=4) (v:=.int .i64 (i:Int)) rfl (by kernel_rfl) (by kernel_rfl) (by kernel_rfl) (by kernel_rfl) (by kernel_rfl) (fun _ _ _ h=>h) (Or.inl ⟨by kernel_rfl,fun V hV=>by obtain ⟨r0,r1⟩:=hV;go_simp⟩) ?_
     refine takeC (i:=5) (v:=.pointer (some ⟨Bx,0,none⟩)) rfl (by kernel_rfl) (by kernel_rfl) (by kernel_rfl) (by kernel_rfl) (by kernel_rfl) (fun _ _ _ h=>h) (Or.inl ⟨by kernel_rfl,fun V hV=>by obtain ⟨r0,r1⟩:=hV;go_simp⟩) ?_
     refine takeC (i:=6) (v:=.int .i64 y0) rfl (by kernel_rfl) (by kernel_rfl) (by kernel_rfl) (by kernel_rfl) (by kernel_rfl) (fun _ _ _ h=>h) (Or.inl ⟨by kernel_rfl,fun V hV=>by obtain ⟨r0,r1⟩:=hV;go_simp⟩) ?_
     refine takeC (i:=7) (v:=.bool true) rfl (by kernel_rfl) (by kernel_rfl) (by kernel_rfl) (by kernel_rfl) (by kernel_rfl) (fun _ _ _ h=>h) (Or.inl ⟨by kernel_rfl,fun V hV=>by obtain ⟨r0,r1⟩:=hV;go_simp⟩) ?_
     refine takeC (i:=8) (v:=.pointer (some ⟨g,m*4,none⟩)) rfl (by kernel_rfl) (by kernel_rfl) (by kernel_rfl) (by kernel_rfl) (by kernel_rfl) (fun _ _ _ h=>h) (Or.inl ⟨by kernel_rfl,fun V hV=>by obtain ⟨r0,r1⟩:=hV;go_simp⟩) ?_
     refine takeC (i:=9) (v:=.pointer (some ⟨g,m*4+2,none⟩)) rfl (by kernel_rfl) (by kernel_rfl) (by kernel_rfl) (by kernel_rfl) (by kernel_rfl) (fun _ _ _ h=>h) (Or.inl ⟨by kernel_rfl,fun V hV=>by obtain ⟨r0,r1⟩:=hV;go_simp⟩) ?_
     refine consC (i:=10) (by kernel_rfl) (by kernel_rfl) ⟨cv,q0⟩ rfl (fun K' hK=>?_)
     go_wp2_with fail
     refine takeC (i:=11) (v:=.pointer (some ⟨g,m*4,none⟩)) rfl (by kernel_rfl) (by kernel_rfl) (by kernel_rfl) (by kernel_rfl) (by kernel_rfl) (fun _ _ _ h=>h) (Or.inl ⟨by kernel_rfl,fun V hV=>by obtain ⟨r0,r1⟩:=hV;go_simp⟩) ?_
     refine lastC (by kernel_rfl) (by kernel_rfl) ⟨r1c,r2c⟩ (of_decide_eq_true (by kernel_rfl)) ?_
     refine any_seqI [12,13] [_,_] _ _ _ rfl (by kernel_rfl) ?_
     go_wp2_with fail
     exact HF.out
    ·have e4:(y0==4)=false:=beq_eq_false_iff_ne.2 k4
     by_cases k5:y0=5
     ·have HN:Hid ((y0=4∨y0=5)∧decide (y0=4)=false):=⟨Or.inr k5,decide_eq_false k4⟩
      rw [decide_eq_true (show y0=4∨y0=5 from Or.inr k5)] at CE'
      have CE:=CE' W
      clear k4 k5
      have HL1:Hid (newL h L x=L++[(y1,i,h.length,false)]):=by show _=_;rw [HNew.out,if_pos hf]
      have HM:Hid (numL8 h L x=L.length):=by show _=_;rw [HNum.out,hf];rfl
      have HU:Hid (updI (nfI L) y1 (L.length:Int)=nfI (L++[(y1,i,h.length,false)])):=nfI_snoc L y1 i h.length hf
      obtain ⟨gv,cp0,rfl,hcp⟩:=own_slice9 hS.row
      have cv0:=hS.bv.cell
      have c0:=hS.b0.cell
      have hLlen:(L.length:Int)≤300:=by omega
      clear hy1
      gi_wp2_with (first
       | (gi_at_lookup;refine wpListIn_lookup_own_ok_int _ rfl _ _ 251 rfl 3 3 .i64 law8i Tryz.underlying251 Tryz.underlying3 (zero8i _) (w.heap.size+1+1) pre.length D1 rfl hown1 _ _ rfl ki ?_;rw [hy2];intro c hc hwc;clear hc hwc)
       | (gi_at_mapUpdate;refine wpListIn_mapUpdate_own _ rfl _ _ _ 251 rfl 3 3 law8i Tryz.underlying251 _ (w.heap.size+1+1) pre.length D1 rfl hown1 (by unfold maxLen;omega) _ _ _ rfl rfl ki _ [] (plainElem_int Tryz.underlying3 (WalkArith.wf_i64 (by omega))) ?_;intro W1 hown2 hg2;refine Hid.out ?_))
      have hS1:=hS.map hg2 (IMap.put hD1 hown1.isMap y1 (L.length:Int) hown2)
      have x1:SBox W1 Bx 64 _:=(hg2.block Bx hblk.lt (fun e=>by have:=Option.some.inj e;omega)).trans hblk
      have z1:=hg2.size
      have KK1:KeepsFrom W0.heap.size W W1:=by
       have hw0:=HW0.out
       exact KeepsFrom.of_grownBy hg2 (fun j e=>by cases e;omega)
      have KP1:KpL w.heap.size (w.heap.size+1+1+1+1) (w.heap.size+1+1+1+1+1+1+1) W W1:=kpL_grown (by omega) (by omega) (by omega) hg2 (fun r e=>by cases e;omega)
      have d1:=x1.cell 1 _ rfl
      have cv1:=hS1.bv.cell
      have gv1:=hS1.bv.frozen
      have ch1:=hS1.b0.cell
      have hrow:=hS1.row
      clear hS hblk hown1 hown2 hD1 hg2 q0 q1 q2 q3 c0 cv0 c3
      refine Lib.hid ?_
      gi_wp2_with (gi_at_builtin;refine wpListIn_append_own_at _ rfl _ _ 204 rfl w.heap.size 73 i0 (.agg #[.int .i64 0,.int .i64 0,.int .i64 0,.bool false]) 4 32 Tryz.underlying204 hi hz0 hz1 hz2 rfl (by decide) _ _ _ rfl (hrow.alloc _) ⟨W1.heap.size,0,none⟩ 1 1 [.int .i64 y1,.int .i64 (i:Int),.int .i64 (h.length:Int),.bool false] rfl rfl ?a1b5 ?a2b5 ?a3b5 ?a4b5 ?a5b5 ?_)
      case a1b5=>intro j u hj;match j,hj with
       | 0,hj=>simp at hj;subst hj;simp [Addr.add]
       | 1,hj=>simp at hj;subst hj;simp [Addr.add]
       | 2,hj=>simp at hj;subst hj;simp [Addr.add]
       | 3,hj=>simp at hj;subst hj;simp [Addr.add]
      case a2b5=>intro u hu;simp at hu;rcases hu with rfl | rfl | rfl | rfl<;>rfl
      case a3b5=>unfold maxLen;omega
      case a4b5=>omega
      case a5b5=>simp;omega
      intro v' W2 hown2 hg2 _ hat2
      obtain ⟨g,cp,rfl⟩:=ownsRow_succ hown2
      have hS2:=hS1.app (by omega) hown2 hg2 hat2
      have bv2:=(hS1.bv.alloc (.cells #[.int .i64 y1,.int .i64 (i:Int),.int .i64 (h.length:Int),.bool false] 73)).kept hg2 (fun e=>by have:=hS1.far _ e.symm;omega)
      have cv2:=bv2.cell
      have gv2:=bv2.frozen
      have z2:=hg2.size
      rw [World.size_alloc] at z2
      have x2:SBox W2 Bx 64 #[.int .i64 y0,.int .i64 y1,.string ⟨y2.toArray⟩,.string ⟨y3.toArray⟩]:=(hg2.block Bx (x1.alloc (.cells #[.int .i64 y1,.int .i64 (i:Int),.int .i64 (h.length:Int),.bool false] 73)).lt (fun e=>by have:=hS1.far Bx e.symm;exact row_not_box8 x1 hrow (by decide) e)).trans (x1.alloc (.cells #[.int .i64 y1,.int .i64 (i:Int),.int .i64 (h.length:Int),.bool false] 73))
      have KK2:=(KK1.trans ((KeepsOthers.alloc W1 (.cells #[.int .i64 y1,.int .i64 (i:Int),.int .i64 (h.length:Int),.bool false] 73)).from _)).trans ((keeps_row (hrow.alloc (.cells #[.int .i64 y1,.int .i64 (i:Int),.int .i64 (h.length:Int),.bool false] 73)) hg2).from _)
      have KP2:=(KP1.trans (kpL_bel (by omega) (by omega) (by omega) ((Below.refl W1.heap.size W1).alloc (Nat.le_refl _) (.cells #[.int .i64 y1,.int .i64 (i:Int),.int .i64 (h.length:Int),.bool false] 73)))).trans (kpL_grown (by simp;omega) (by simp;omega) (by simp;omega) hg2 (fun r e=>by have:=hS1.far r e;omega))
      obtain ⟨L1,hL1⟩:∃ L1,L++[(y1,i,h.length,false)]=L1:=⟨_,rfl⟩
      have hl1:L.length+1=L1.length:=by rw [← hL1];simp
      obtain ⟨m,hmL⟩:∃ m,L.length=m:=⟨_,rfl⟩
      have hSc:ZSt w 22 (.slice a h.length cap) 204 73 4 (.slice a h.length cap) (.slice (some ⟨g,0,none⟩) L1.length cp) (pre.length+1) (nfI L1) L1.length (recV lifV L1) (W2.setCell ⟨w.heap.size+1,0,none⟩ (.slice (some ⟨g,0,none⟩) L1.length cp)):=by
       rw [← hl1,← hL1,← HU.out,recL_snoc]
       exact hS2
      rw [hL1] at HL1
      rw [hmL] at HM hl1 lenL
      rw [show L.length+1=L1.length by omega] at *
      have ml:m < L1.length:=by omega
      have jm:(m:Int) < (L1.length:Int):=by omega
      obtain ⟨Wc,hWc⟩:∃ Wc,W2.setCell ⟨w.heap.size+1,0,none⟩ (.slice (some ⟨g,0,none⟩) L1.length cp)=Wc:=⟨_,rfl⟩
      have xc:SBox Wc Bx 64 #[.int .i64 y0,.int .i64 y1,.string ⟨y2.toArray⟩,.string ⟨y3.toArray⟩]:=by rw [← hWc];exact x2.other _ _ _ (by omega)
      have KKc:KeepsFrom W0.heap.size W Wc:=by rw [← hWc];exact KK2.trans ((KeepsOthers.setCell _ _ _).from _)
      have KPc:KpL w.heap.size (w.heap.size+1+1+1+1) (w.heap.size+1+1+1+1+1+1+1) W Wc:=by rw [← hWc];exact KP2.trans (kpL_grown (by omega) (by omega) (by omega) (grownBy_setCell' _ _ _) (fun r e=>by cases e;omega))
      have zc:Wc.heap.size=W2.heap.size:=by rw [← hWc];simp
      rw [hWc] at hSc
      have q0c:=xc.cell 0 _ rfl
      have q1c:=xc.cell 1 _ rfl
      have q2c:=xc.cell 2 _ rfl
      have q3c:=xc.cell 3 _ rfl
      have CC:=CE' Wc
      clear hS1 hS2 hown2 KK1 KP1 KK2 KP2 HNew HNum x1 x2 hat2 hrow HU bv2
      clear hL1
      gi_wp2_with ((try refine ⟨trivial,?_⟩);gi_at_call 195;refine (CallsIn.inRound l (callsIn_wide.2 CC)).mono ?_;rintro e W5 ⟨rfl,b5⟩;refine Hid.out ?_)
      have z5:=b5.size
      have hS5:=hSc.bel b5
      have x5:=xc.below b5
      have KK5:=KKc.trans ((keeps_of_below b5).from W0.heap.size)
      have KP5:=KPc.trans (kpL_bel (by omega) (by omega) (by omega) b5)
      have cv:=hS5.bv.cell
      have q0:=x5.cell 0 _ rfl
      have hgf:=hS5.far g rfl
      have gx:=hS5.row.frozenAt (m*4+2)
      have gy:=hS5.row.frozenAt (m*4+3)
      have ca:=life_cell hS5.row ml 2 (by rw [lifV_len];omega)
      have cb:=life_cell hS5.row ml 3 (by rw [lifV_len];omega)
      simp only [lifV,List.getElem_cons_succ,List.getElem_cons_zero] at ca cb
      have cb':(W5.setCell ⟨g,m*4+2,none⟩ (.int .i64 (i:Int))).cell? ⟨g,m*4+3,none⟩=some (.bool L1[m].2.2.2):=by rw [World.cell?_setCell_other _ _ _ _ (by simp)];exact cb
      have r1c:(W5.drew.setCell ⟨g,m*4+2,none⟩ (.int .i64 (i:Int))).cell? ⟨w.heap.size+1,0,none⟩=some (.slice (some ⟨g,0,none⟩) L1.length cp):=by rw [World.cell?_setCell_other _ _ _ _ (by first | (simp;done) | (simp;omega))];exact cv
      have r2c:(W5.drew.setCell ⟨g,m*4+2,none⟩ (.int .i64 (i:Int))).cell? ⟨Bx,0,none⟩=some (.int .i64 y0):=by rw [World.cell?_setCell_other _ _ _ _ (by first | (simp;done) | (simp;omega))];exact q0
      have HF:Hid (KeepsFrom W0.heap.size W ((W5.drew.setCell ⟨g,m*4+2,none⟩ (.int .i64 (i:Int))).setCell ⟨g,m*4+3,none⟩ (.bool false))∧KpL w.heap.size (w.heap.size+1+1+1+1) (w.heap.size+1+1+1+1+1+1+1) W ((W5.drew.setCell ⟨g,m*4+2,none⟩ (.int .i64 (i:Int))).setCell ⟨g,m*4+3,none⟩ (.bool false))∧YInv w (.slice a h.length cap) h (pre++[x]) ((W5.drew.setCell ⟨g,m*4+2,none⟩ (.int .i64 (i:Int))).setCell ⟨g,m*4+3,none⟩ (.bool false))):=by
       refine ⟨((KK5.trans ((KeepsOthers.drew _).from _)).trans ((KeepsOthers.setCell _ _ _).from _)).trans ((KeepsOthers.setCell _ _ _).from _),KP5.trans (kpL_set2 (by omega) (by omega) (by omega) g _ _ _ _ (by omega) (by omega) (by omega)),.slice (some ⟨g,0,none⟩) L1.length cp,?_⟩
       have e:lvF h (pre++[x])=endS L1 m i false:=by rw [HV.out,HS.out,if_pos HN.out.1,HL1.out,HM.out,HN.out.2]
       rw [e,LX.out,endS_nfI,endS_len]
       refine ZSt.keep (m:=pre.length+1) ?_ (Nat.le_refl _) rfl
       exact (hS5.keep (m':=pre.length+1) (by omega) rfl).fin8 ml i false
      clear hS5 hSc KK5 KP5 KKc KPc x5 xc HV HS HL1 HM HN
      refine Lib.hid ?_
      gi_wp2
      refine regionIn_any (by kernel_rfl) (fun ⟨_,_,h⟩=>h) (by kernel_rfl) ?_
      refine any_of_C (C:=fun V=>V.cell? ⟨w.heap.size+1,0,none⟩=some (.slice (some ⟨g,0,none⟩) L1.length cp)∧V.cell? ⟨Bx,0,none⟩=some (.int .i64 y0)) 12 _ _ _ _ ?_
      refine takeC (i:=0) (v:=.slice (some ⟨g,0,none⟩) L1.length cp) rfl (by kernel_rfl) (by kernel_rfl) (by kernel_rfl) (by kernel_rfl) (by kernel_rfl) (fun _ _ _ h=>h) (Or.inl ⟨by kernel_rfl,fun V hV=>by obtain ⟨r0,r1⟩:=hV;go_simp⟩) ?_
      refine takeC (i:=1) (v:=.int .i64 (m:Int)) rfl (by kernel_rfl) (by kernel_rfl) (by kernel_rfl) (by kernel_rfl) (by kernel_rfl) (fun _ _ _ h=>h) (Or.inl ⟨by kernel_rfl,fun V hV=>by obtain ⟨r0,r1⟩:=hV;go_simp⟩) ?_
      refine takeC (i:=2) (v:=.slice (some ⟨g,0,none⟩) L1.length cp) rfl (by kernel_rfl) (by kernel_rfl) (by kernel_rfl) (by kernel_rfl) (by kernel_rfl) (fun _ _ _ h=>h) (Or.inl ⟨by kernel_rfl,fun V hV=>by obtain ⟨r0,r1⟩:=hV;go_simp⟩) ?_
      refine takeC (i:=3) (v:=.int .i64 (m:Int)) rfl (by kernel_rfl) (by kernel_rfl) (by kernel_rfl) (by kernel_rfl) (by kernel_rfl) (fun _ _ _ h=>h) (Or.inl ⟨by kernel_rfl,fun V hV=>by obtain ⟨r0,r1⟩:=hV;go_simp⟩) ?_
      refine takeC (i:=4) (v:=.int .i64 (i:Int)) rfl (by kernel_rfl) (by kernel_rfl) (by kernel_rfl) (by kernel_rfl) (by kernel_rfl) (fun _ _ _ h=>h) (Or.inl ⟨by kernel_rfl,fun V hV=>by obtain ⟨r0,r1⟩:=hV;go_simp⟩) ?_
      refine takeC (i:=5) (v:=.pointer (some ⟨Bx,0,none⟩)) rfl (by kernel_rfl) (by kernel_rfl) (by kernel_rfl) (by kernel_rfl) (by kernel_rfl) (fun _ _ _ h=>h) (Or.inl ⟨by kernel_rfl,fun V hV=>by obtain ⟨r0,r1⟩:=hV;go_simp⟩) ?_
      refine takeC (i:=6) (v:=.int .i64 y0) rfl (by kernel_rfl) (by kernel_rfl) (by kernel_rfl) (by kernel_rfl) (by kernel_rfl) (fun _ _ _ h=>h) (Or.inl ⟨by kernel_rfl,fun V hV=>by obtain ⟨r0,r1⟩:=hV;go_simp⟩) ?_
      refine takeC (i:=7) (v:=.bool false) rfl (by kernel_rfl) (by kernel_rfl) (by kernel_rfl) (by kernel_rfl) (by kernel_rfl) (fun _ _ _ h=>h) (Or.inl ⟨by kernel_rfl,fun V hV=>by obtain ⟨r0,r1⟩:=hV;go_simp⟩) ?_
      refine takeC (i:=8) (v:=.pointer (some ⟨g,m*4,none⟩)) rfl (by kernel_rfl) (by kernel_rfl) (by kernel_rfl) (by kernel_rfl) (by kernel_rfl) (fun _ _ _ h=>h) (Or.inl ⟨by kernel_rfl,fun V hV=>by obtain ⟨r0,r1⟩:=hV;go_simp⟩) ?_
      refine takeC (i:=9) (v:=.pointer (some ⟨g,m*4+2,none⟩)) rfl (by kernel_rfl) (by kernel_rfl) (by kernel_rfl) (by kernel_rfl) (by kernel_rfl) (fun _ _ _ h=>h) (Or.inl ⟨by kernel_rfl,fun V hV=>by obtain ⟨r0,r1⟩:=hV;go_simp⟩) ?_
      refine consC (i:=10) (by kernel_rfl) (by kernel_rfl) ⟨cv,q0⟩ rfl (fun K' hK=>?_)
      go_wp2_with fail
      refine takeC (i:=11) (v:=.pointer (some ⟨g,m*4,none⟩)) rfl (by kernel_rfl) (by kernel_rfl) (by kernel_rfl) (by kernel_rfl) (by kernel_rfl) (fun _ _ _ h=>h) (Or.inl ⟨by kernel_rfl,fun V hV=>by obtain ⟨r0,r1⟩:=hV;go_simp⟩) ?_
      refine lastC (by kernel_rfl) (by kernel_rfl) ⟨r1c,r2c⟩ (of_decide_eq_true (by kernel_rfl)) ?_
      refine any_seqI [12,13] [_,_] _ _ _ rfl (by kernel_rfl) ?_
      go_wp2_with fail
      exact HF.out
     ·have HN:Hid (¬ (y0=4∨y0=5)):=fun hh=>hh.elim k4 k5
      rw [decide_eq_false (show ¬ (y0=4∨y0=5) from fun hh=>hh.elim k4 k5)] at CE'
      have CE:=CE' W
      clear k4 k5
      have HL1:Hid (newL h L x=L++[(y1,i,h.length,false)]):=by show _=_;rw [HNew.out,if_pos hf]
      have HM:Hid (numL8 h L x=L.length):=by show _=_;rw [HNum.out,hf];rfl
      have HU:Hid (updI (nfI L) y1 (L.length:Int)=nfI (L++[(y1,i,h.length,false)])):=nfI_snoc L y1 i h.length hf
      obtain ⟨gv,cp0,rfl,hcp⟩:=own_slice9 hS.row
      have cv0:=hS.bv.cell
      have c0:=hS.b0.cell
      have hLlen:(L.length:Int)≤300:=by omega
      clear hy1
      gi_wp2_with (first
       | (gi_at_lookup;refine wpListIn_lookup_own_ok_int _ rfl _ _ 251 rfl 3 3 .i64 law8i Tryz.underlying251 Tryz.underlying3 (zero8i _) (w.heap.size+1+1) pre.length D1 rfl hown1 _ _ rfl ki ?_;rw [hy2];intro c hc hwc;clear hc hwc)
       | (gi_at_mapUpdate;refine wpListIn_mapUpdate_own _ rfl _ _ _ 251 rfl 3 3 law8i Tryz.underlying251 _ (w.heap.size+1+1) pre.length D1 rfl hown1 (by unfold maxLen;omega) _ _ _ rfl rfl ki _ [] (plainElem_int Tryz.underlying3 (WalkArith.wf_i64 (by omega))) ?_;intro W1 hown2 hg2;refine Hid.out ?_))
      have hS1:=hS.map hg2 (IMap.put hD1 hown1.isMap y1 (L.length:Int) hown2)
      have x1:SBox W1 Bx 64 _:=(hg2.block Bx hblk.lt (fun e=>by have:=Option.some.inj e;omega)).trans hblk
      have z1:=hg2.size
      have KK1:KeepsFrom W0.heap.size W W1:=by
       have hw0:=HW0.out
       exact KeepsFrom.of_grownBy hg2 (fun j e=>by cases e;omega)
      have KP1:KpL w.heap.size (w.heap.size+1+1+1+1) (w.heap.size+1+1+1+1+1+1+1) W W1:=kpL_grown (by omega) (by omega) (by omega) hg2 (fun r e=>by cases e;omega)
      have d1:=x1.cell 1 _ rfl
      have cv1:=hS1.bv.cell
      have gv1:=hS1.bv.frozen
      have ch1:=hS1.b0.cell
      have hrow:=hS1.row
      clear hS hblk hown1 hown2 hD1 hg2 q0 q1 q2 q3 c0 cv0 c3
      refine Lib.hid ?_
      gi_wp2_with (gi_at_builtin;refine wpListIn_append_own_at _ rfl _ _ 204 rfl w.heap.size 73 i0 (.agg #[.int .i64 0,.int .i64 0,.int .i64 0,.bool false]) 4 32 Tryz.underlying204 hi hz0 hz1 hz2 rfl (by decide) _ _ _ rfl (hrow.alloc _) ⟨W1.heap.size,0,none⟩ 1 1 [.int .i64 y1,.int .i64 (i:Int),.int .i64 (h.length:Int),.bool false] rfl rfl ?a1bn ?a2bn ?a3bn ?a4bn ?a5bn ?_)
      case a1bn=>intro j u hj;match j,hj with
       | 0,hj=>simp at hj;subst hj;simp [Addr.add]
       | 1,hj=>simp at hj;subst hj;simp [Addr.add]
       | 2,hj=>simp at hj;subst hj;simp [Addr.add]
       | 3,hj=>simp at hj;subst hj;simp [Addr.add]
      case a2bn=>intro u hu;simp at hu;rcases hu with rfl | rfl | rfl | rfl<;>rfl
      case a3bn=>unfold maxLen;omega
      case a4bn=>omega
      case a5bn=>simp;omega
      intro v' W2 hown2 hg2 _ hat2
      obtain ⟨g,cp,rfl⟩:=ownsRow_succ hown2
      have hS2:=hS1.app (by omega) hown2 hg2 hat2
      have bv2:=(hS1.bv.alloc (.cells #[.int .i64 y1,.int .i64 (i:Int),.int .i64 (h.length:Int),.bool false] 73)).kept hg2 (fun e=>by have:=hS1.far _ e.symm;omega)
      have cv2:=bv2.cell
      have gv2:=bv2.frozen
      have z2:=hg2.size
      rw [World.size_alloc] at z2
      have x2:SBox W2 Bx 64 #[.int .i64 y0,.int .i64 y1,.string ⟨y2.toArray⟩,.string ⟨y3.toArray⟩]:=(hg2.block Bx (x1.alloc (.cells #[.int .i64 y1,.int .i64 (i:Int),.int .i64 (h.length:Int),.bool false] 73)).lt (fun e=>by have:=hS1.far Bx e.symm;exact row_not_box8 x1 hrow (by decide) e)).trans (x1.alloc (.cells #[.int .i64 y1,.int .i64 (i:Int),.int .i64 (h.length:Int),.bool false] 73))
      have KK2:=(KK1.trans ((KeepsOthers.alloc W1 (.cells #[.int .i64 y1,.int .i64 (i:Int),.int .i64 (h.length:Int),.bool false] 73)).from _)).trans ((keeps_row (hrow.alloc (.cells #[.int .i64 y1,.int .i64 (i:Int),.int .i64 (h.length:Int),.bool false] 73)) hg2).from _)
      have KP2:=(KP1.trans (kpL_bel (by omega) (by omega) (by omega) ((Below.refl W1.heap.size W1).alloc (Nat.le_refl _) (.cells #[.int .i64 y1,.int .i64 (i:Int),.int .i64 (h.length:Int),.bool false] 73)))).trans (kpL_grown (by simp;omega) (by simp;omega) (by simp;omega) hg2 (fun r e=>by have:=hS1.far r e;omega))
      obtain ⟨L1,hL1⟩:∃ L1,L++[(y1,i,h.length,false)]=L1:=⟨_,rfl⟩
      have hl1:L.length+1=L1.length:=by rw [← hL1];simp
      obtain ⟨m,hmL⟩:∃ m,L.length=m:=⟨_,rfl⟩
      have hSc:ZSt w 22 (.slice a h.length cap) 204 73 4 (.slice a h.length cap) (.slice (some ⟨g,0,none⟩) L1.length cp) (pre.length+1) (nfI L1) L1.length (recV lifV L1) (W2.setCell ⟨w.heap.size+1,0,none⟩ (.slice (some ⟨g,0,none⟩) L1.length cp)):=by
       rw [← hl1,← hL1,← HU.out,recL_snoc]
       exact hS2
      rw [hL1] at HL1
      rw [hmL] at HM hl1 lenL
      rw [show L.length+1=L1.length by omega] at *
      have ml:m < L1.length:=by omega
      have jm:(m:Int) < (L1.length:Int):=by omega
      obtain ⟨Wc,hWc⟩:∃ Wc,W2.setCell ⟨w.heap.size+1,0,none⟩ (.slice (some ⟨g,0,none⟩) L1.length cp)=Wc:=⟨_,rfl⟩
      have xc:SBox Wc Bx 64 #[.int .i64 y0,.int .i64 y1,.string ⟨y2.toArray⟩,.string ⟨y3.toArray⟩]:=by rw [← hWc];exact x2.other _ _ _ (by omega)
      have KKc:KeepsFrom W0.heap.size W Wc:=by rw [← hWc];exact KK2.trans ((KeepsOthers.setCell _ _ _).from _)
      have KPc:KpL w.heap.size (w.heap.size+1+1+1+1) (w.heap.size+1+1+1+1+1+1+1) W Wc:=by rw [← hWc];exact KP2.trans (kpL_grown (by omega) (by omega) (by omega) (grownBy_setCell' _ _ _) (fun r e=>by cases e;omega))
      have zc:Wc.heap.size=W2.heap.size:=by rw [← hWc];simp
      rw [hWc] at hSc
      have q0c:=xc.cell 0 _ rfl
      have q1c:=xc.cell 1 _ rfl
      have q2c:=xc.cell 2 _ rfl
      have q3c:=xc.cell 3 _ rfl
      have CC:=CE' Wc
      clear hS1 hS2 hown2 KK1 KP1 KK2 KP2 HNew HNum x1 x2 hat2 hrow HU bv2
      clear hL1
      gi_wp2_with ((try refine ⟨trivial,?_⟩);gi_at_call 195;refine (CallsIn.inRound l (callsIn_wide.2 CC)).mono ?_;rintro e W5 ⟨rfl,b5⟩;refine Hid.out ?_)
      have z5:=b5.size
      have hS5:=hSc.bel b5
      have x5:=xc.below b5
      have KK5:=KKc.trans ((keeps_of_below b5).from W0.heap.size)
      have KP5:=KPc.trans (kpL_bel (by omega) (by omega) (by omega) b5)
      have HF:Hid (KeepsFrom W0.heap.size W W5∧KpL w.heap.size (w.heap.size+1+1+1+1) (w.heap.size+1+1+1+1+1+1+1) W W5∧YInv w (.slice a h.length cap) h (pre++[x]) W5):=by
       refine ⟨KK5,KP5,.slice (some ⟨g,0,none⟩) L1.length cp,?_⟩
       have e:lvF h (pre++[x])=L1:=by rw [HV.out,HS.out,if_neg HN.out,HL1.out]
       rw [e,LX.out]
       exact hS5.keep (by omega) rfl
      clear hS5 hSc KK5 KP5 KKc KPc x5 xc HV HS HL1
      refine Lib.hid ?_
      gi_wp2
      exact HF.out
 case done =>
  rintro D ys W hD rfl ⟨v,hS⟩ hK
  have HE:Hid (lvF h (livP h)=livesL h):=lives_liv h
  have c1:=hS.bv.cell
  have HD:Hid (w.heap.size+1+1+1+1+1≤D):=by rw [sW0] at hD;exact hD
  clear sW0 hS0 hD
  gi_wp2
  refine ⟨by simp,.inl ⟨_,_,rfl,run_takeDeferred hK,?_⟩⟩
  refine ⟨_,results_tmp rfl _ _ _,_,rfl,hS.below.trans (belowK_b (w:=w) (Nat.le_refl _) _ D _ _ (by have:=HD.out;omega) hK rfl rfl),?_⟩
  have hr:=hS.row
  rw [HE.out] at hr
  exact ownsRow_putObj hr _ hK rfl
 case stop =>
  rintro D c pre W hD hSp h hK
  exact h.elim
end Go.Proofs.YtkkenfhlgpjmjaaGreatDoor
