/-
  The walk of LeanTurned.
-/
import Derived.Test.YthamoeekiglphaaGreatDoorCL6a
namespace Go.Proofs.YthamoeekiglphaaGreatDoor
set_option maxRecDepth 100000
open Go.RowKit Go.Maps
set_option linter.unusedVariables false
attribute [local go_sem] ba_size farW_cell
theorem run_eveq15 (w:World) (x0 x1 y0 y1:Int) (x2 x3 y2 y3:List UInt8):Sem.run Tryz.prog (binOp .eql 53 (.agg #[.int .i64 x0,.int .i64 x1,.string ⟨x2.toArray⟩,.string ⟨x3.toArray⟩]) (.agg #[.int .i64 y0,.int .i64 y1,.string ⟨y2.toArray⟩,.string ⟨y3.toArray⟩])) w=.ok (.bool (decide ((x0,x1,x2,x3)=(y0,y1,y2,y3)))) w:=by
 by_cases h0:x0=y0<;>by_cases h1:x1=y1<;>by_cases h2:x2=y2<;>by_cases h3:x3=y3<;>simp [go_sem,h0,h1,h2,h3]
set_option maxHeartbeats 8000000 in
theorem turned15_walk (C:P15C) (w:World) (hGl:G w) (tx:List UInt8) (sq:Int) (pv rt:List UInt8) (ct lv k0 k1 k2:Int) (ac:Bool) (oa:Option Addr) (oc:Nat) (o:List Int) (ra:Option Addr) (rc:Nat) (g:List Ed) (pa:Option Addr) (pc:Nat) (q:List Pf) (hO:IsInts w (.slice oa o.length oc) o) (hR:IsEds w (.slice ra g.length rc) g) (hP:IsPfs w (.slice pa q.length pc) q) (i x0 x1:Int) (x2 x3:List UInt8) :
 Calls Tryz.prog 6 #[.agg #[.string ⟨tx.toArray⟩,.int .i64 sq,.string ⟨pv.toArray⟩,.string ⟨rt.toArray⟩,.int .i64 ct,.int .i64 lv,.bool ac,.slice oa o.length oc,.int .i64 k0,.int .i64 k1,.int .i64 k2,.slice ra g.length rc,.slice pa q.length pc],.int .i64 i,.agg #[.int .i64 x0,.int .i64 x1,.string ⟨x2.toArray⟩,.string ⟨x3.toArray⟩]] w fun e w'=>e=.returned (.bool true)∧Below w.heap.size w w':=by
 have hg3:=hGl.size
 have hA:CtAt w (tx,sq,pv,rt,ct,(lv,ac,o,(k0,k1,k2),g),q) (.slice oa o.length oc) (.slice ra g.length rc) (.slice pa q.length pc):=⟨hO,hR,hP⟩
 have HSh:=Lib.hid (fun W (hb:Below w.heap.size w W)=>shown15_any C W (hGl.below hb hg3))
 have P3:=fun W (hb:Below w.heap.size w W)=>C.check (tx,sq,pv,rt,ct,(lv,ac,o,(k0,k1,k2),g),q) _ _ _ rt W (hGl.below hb hg3) (hA.below hb)
 have HPv:=Lib.hid (fun (q2:List Pf) (vp2:Value) W (hb:Below w.heap.size w W) (hp2:IsPfs W vp2 q2)=>C.proved (tx,sq,pv,rt,ct,(lv,ac,o,(k0,k1,k2),g),q2) _ _ vp2 rt W (hGl.below hb hg3) ⟨hO.below hb,hR.below hb,hp2⟩)
 have HM:=Lib.hid (fun W=>rmay_any x0 x1 x2 x3 W)
 have HLo:=Lib.hid (lean_ok sumL (tx,sq,pv,rt,ct,(lv,ac,o,(k0,k1,k2),g),q) rt)
 have HPo:=Lib.hid (prov_ok sumL (tx,sq,pv,rt,ct,(lv,ac,o,(k0,k1,k2),g),q) rt)
 have HPo2:=Lib.hid (fun q2:List Pf=>prov_ok sumL (tx,sq,pv,rt,ct,(lv,ac,o,(k0,k1,k2),g),q2) rt)
 obtain ⟨pa2,pc2,hpe,_,_,q3,HCq⟩:=hP.reads
 obtain ⟨rfl,rfl⟩:pa=pa2∧pc=pc2:=by simpa using hpe
 obtain ⟨Lq,hQr,hQp⟩:=hP
 obtain ⟨le,hle⟩:∃ z,leanL sumL (tx,sq,pv,rt,ct,(lv,ac,o,(k0,k1,k2),g),q) rt=z:=⟨_,rfl⟩
 rw [hle] at P3
 have HLe:=Lib.hid hle
 obtain ⟨no,hno⟩:∃ m,o.length=m:=⟨_,rfl⟩
 obtain ⟨ng,hng⟩:∃ m,g.length=m:=⟨_,rfl⟩
 obtain ⟨nq,hnq⟩:∃ m,q.length=m:=⟨_,rfl⟩
 have HNq:=Lib.hid hnq
 simp only [hno,hng,hnq] at P3 HPv ⊢
 rw [hnq] at q3 hQr
 have CK:=Lib.hid P3
 have HQr:=Lib.hid hQr
 have HQp:=Lib.hid hQp
 have X0:=(SBox.new w 30 #[.string ⟨tx.toArray⟩,.int .i64 sq,.string ⟨pv.toArray⟩,.string ⟨rt.toArray⟩,.int .i64 ct,.int .i64 lv,.bool ac,.slice oa no oc,.int .i64 k0,.int .i64 k1,.int .i64 k2,.slice ra ng rc,.slice pa nq pc]).alloc (.cells #[.int .i64 x0,.int .i64 x1,.string ⟨x2.toArray⟩,.string ⟨x3.toArray⟩] 53)
 have B0:=(Below.refl w.heap.size w).alloc (Nat.le_refl _) (.cells #[.string ⟨tx.toArray⟩,.int .i64 sq,.string ⟨pv.toArray⟩,.string ⟨rt.toArray⟩,.int .i64 ct,.int .i64 lv,.bool ac,.slice oa no oc,.int .i64 k0,.int .i64 k1,.int .i64 k2,.slice ra ng rc,.slice pa nq pc] 30)
 have B1:=B0.alloc (by simp) (.cells #[.int .i64 x0,.int .i64 x1,.string ⟨x2.toArray⟩,.string ⟨x3.toArray⟩] 53)
 have Y0:SBox ((w.alloc (.cells #[.string ⟨tx.toArray⟩,.int .i64 sq,.string ⟨pv.toArray⟩,.string ⟨rt.toArray⟩,.int .i64 ct,.int .i64 lv,.bool ac,.slice oa no oc,.int .i64 k0,.int .i64 k1,.int .i64 k2,.slice ra ng rc,.slice pa nq pc] 30)).alloc (.cells #[.int .i64 x0,.int .i64 x1,.string ⟨x2.toArray⟩,.string ⟨x3.toArray⟩] 53)) (w.heap.size+1) 53 #[.int .i64 x0,.int .i64 x1,.string ⟨x2.toArray⟩,.string ⟨x3.toArray⟩]:=by have:=SBox.new (w.alloc (.cells #[.string ⟨tx.toArray⟩,.int .i64 sq,.string ⟨pv.toArray⟩,.string ⟨rt.toArray⟩,.int .i64 ct,.int .i64 lv,.bool ac,.slice oa no oc,.int .i64 k0,.int .i64 k1,.int .i64 k2,.slice ra ng rc,.slice pa nq pc] 30)) 53 #[.int .i64 x0,.int .i64 x1,.string ⟨x2.toArray⟩,.string ⟨x3.toArray⟩];rw [World.size_alloc] at this;exact this
 obtain ⟨r1,g1⟩:∃ r,decide (mayE (x0,x1,x2,x3))=r:=⟨_,rfl⟩
 have HMx:=Lib.hid g1
 clear hO hR hA hle hno hng hnq P3 hGl hQr hQp hpe
 go_enter Tryz.func6,Tryz.ntmps6
 go_upto_region 1 with fail
 generalize hW:(w.alloc (.cells #[.string ⟨tx.toArray⟩,.int .i64 sq,.string ⟨pv.toArray⟩,.string ⟨rt.toArray⟩,.int .i64 ct,.int .i64 lv,.bool ac,.slice oa no oc,.int .i64 k0,.int .i64 k1,.int .i64 k2,.slice ra ng rc,.slice pa nq pc] 30)).alloc (.cells #[.int .i64 x0,.int .i64 x1,.string ⟨x2.toArray⟩,.string ⟨x3.toArray⟩] 53)=W0 at B1 X0 Y0
 (try rw [hW])
 (try simp only [World.size_alloc])
 clear hW B0
 go_wp2_with fail
 refine (HSh.out _ B1).mono ?_
 rintro e w1 ⟨rfl,b1⟩
 have B2:=bel_trans B1 b1
 have X1:=X0.below b1
 have Y1:=Y0.below b1
 clear X0 Y0 B1 b1
 have y0:=Y1.cell 0 _ rfl
 have y1:=Y1.cell 1 _ rfl
 have y2:=Y1.cell 2 _ rfl
 have y3:=Y1.cell 3 _ rfl
 go_upto_region 2 with fail
 go_wp2_with fail
 refine (HM.out w1).mono ?_
 rintro e w2 ⟨rfl,b2⟩
 have Bc:=bel_trans B2 b2
 have X2:=X1.below b2
 have Y2:=Y1.below b2
 rw [HMx.out]
 clear X1 Y1 B2 b2 y0 y1 y2 y3 HM
 have c0:=X2.cell 0 _ rfl
 have c1:=X2.cell 1 _ rfl
 have c2:=X2.cell 2 _ rfl
 have c3:=X2.cell 3 _ rfl
 have c4:=X2.cell 4 _ rfl
 have c5:=X2.cell 5 _ rfl
 have c6:=X2.cell 6 _ rfl
 have c7:=X2.cell 7 _ rfl
 have c8:=X2.cell 8 _ rfl
 have c9:=X2.cell 9 _ rfl
 have c10:=X2.cell 10 _ rfl
 have c11:=X2.cell 11 _ rfl
 have c12:=X2.cell 12 _ rfl
 have y0:=Y2.cell 0 _ rfl
 have y1:=Y2.cell 1 _ rfl
 have y2:=Y2.cell 2 _ rfl
 have y3:=Y2.cell 3 _ rfl
 have HX:=Lib.hid X2
 have HY:=Lib.hid Y2
 clear X2 Y2
 obtain ⟨r2,g2⟩:∃ r,decide (60 < nq)=r:=⟨_,rfl⟩
 have g2b:decide ((nq:Int) > 60)=r2:=by rw [← g2];exact decide_eq_decide.2 (by omega)
 obtain ⟨r3,g3⟩:∃ r,decide (i < 0)=r:=⟨_,rfl⟩
 obtain ⟨r4,g4⟩:∃ r,decide (i ≥ (nq:Int))=r:=⟨_,rfl⟩
 have g4b:decide ((nq:Int)≤i)=r4:=g4
 have g2c:decide (60 < (nq:Int))=r2:=by rw [← g2];exact decide_eq_decide.2 (by omega)
 obtain ⟨r5,g5⟩:∃ r,(le != 0)=r:=⟨_,rfl⟩
 have g5b:(le==0)=!r5:=by rw [← g5];unfold bne;rw [Bool.not_not]
 have H:r1=false∨(r1=true∧r2=true)∨(r1=true∧r2=false∧r3=true)∨(r1=true∧r2=false∧r3=false∧r4=true)∨(r1=true∧r2=false∧r3=false∧r4=false∧r5=true)∨(r1=true∧r2=false∧r3=false∧r4=false∧r5=false):=by cases r1<;>cases r2<;>cases r3<;>cases r4<;>cases r5<;>simp
 rcases H with rfl | ⟨rfl,rfl⟩ | ⟨rfl,rfl,rfl⟩ | ⟨rfl,rfl,rfl,rfl⟩ | ⟨rfl,rfl,rfl,rfl,rfl⟩ | ⟨rfl,rfl,rfl,rfl,rfl⟩
 rotate_right
 ·have hi0:0≤i:=by have:=of_decide_eq_false g3;omega
  have hin:i < (nq:Int):=by have:=of_decide_eq_false g4;omega
  obtain ⟨m,rfl⟩:∃ m:Nat,i=(m:Int):=⟨i.toNat,by omega⟩
  have hmq:m < q.length:=by have:=HNq.out;omega
  have g4c:decide (nq≤m)=false:=decide_eq_false (by omega)
  simp only [Bool.not_false] at g5b
  obtain ⟨bb,off,rfl,u,hu,HQ⟩:=HCq.out m hmq
  obtain ⟨v0,v1,v2,v3,v4,v5⟩:=HQ w2 Bc
  have HQ1:=Lib.hid HQ
  obtain ⟨⟨iy,⟨p0,p1,p2,p3⟩,ip⟩,hq⟩:∃ z,q[m]=z:=⟨_,rfl⟩
  have HQm:=Lib.hid hq
  rw [hq] at v0 v1 v2 v3 v4 hu HQ1
  simp only at v0 v1 v2 v3 v4 hu
  have Hu:=Lib.hid hu
  obtain ⟨eq_,heq⟩:∃ r,decide ((p0,p1,p2,p3)=(x0,x1,x2,x3))=r:=⟨_,rfl⟩
  have HEq:=Lib.hid heq
  have heqr:=fun W=>(run_eveq15 W p0 p1 x0 x1 p2 p3 x2 x3).trans (by rw [heq])
  clear hq HQ hu heq
  go_upto_region 3 with fail
  refine region_far (by kernel_rfl) (by kernel_rfl) ?_
  repeat (first | go_big_quiet_skip | (go_big_quiet_want;go_big_quiet_op;first | go_big_quiet_on | go_big_quiet_call (first | (go_at_call 13;exact calls_far (CK.out _ (bel_trans Bc (farW_bel _ _)))))))
  refine wpQuiet_nil ?_
  rintro w' ⟨U,rfl⟩
  have Be:=bel_trans Bc (farW_bel w2 U)
  have Xf:=HX.out.below (farW_bel w2 U)
  have Yf:=HY.out.below (farW_bel w2 U)
  generalize farW w2 U=wE at Be Xf Yf ⊢
  clear c0 c1 c2 c3 c4 c5 c6 c7 c8 c9 c10 c11 c12 y0 y1 y2 y3 v0 v1 v2 v3 v4 v5 HX HY Bc CK
  cases eq_ with
  | true =>
    go_wp2_with fail
    go_ret
    exact ⟨rfl,Be⟩
  | false =>
  have hle0:le=0:=by simpa using g5b
  obtain ⟨hp0,-,-⟩:=HLo.out (by rw [HLe.out];exact hle0)
  obtain ⟨hmay,-,hpU⟩:=HPo.out.1 hp0
  have hckm:=pfU_at sumL rt ct q q.length m hmq hpU
  rw [pf15_at q m hmq,HQm.out] at hckm
  have hpm:=hmay.2.2.2 (iy,(p0,p1,p2,p3),ip) (by rw [← HQm.out];exact List.getElem_mem hmq)
  have hxm:mayE (x0,x1,x2,x3):=of_decide_eq_true HMx.out
  have hne:(p0,p1,p2,p3)≠(x0,x1,x2,x3):=fun h=>by have:=HEq.out;rw [decide_eq_true h] at this;cases this
  have HCk:=Lib.hid hckm
  have HPm:Hid (mayE (p0,p1,p2,p3)):=hpm.1.2
  have HXm:=Lib.hid hxm
  have HNe:=Lib.hid hne
  have hq60:nq≤60:=by have:=of_decide_eq_false g2;omega
  clear hle0 hp0 hmay hpU hckm hpm hxm hne heqr g1 g2 g2b g2c g3 g4 g4b g4c g5 g5b HLo HPo HLe HEq HMx
  obtain ⟨i0,hi,hz0,hz1,hz2⟩:=info_parts pf_infoM
  have c0:=Xf.cell 0 _ rfl
  have c1:=Xf.cell 1 _ rfl
  have c2:=Xf.cell 2 _ rfl
  have c3:=Xf.cell 3 _ rfl
  have c4:=Xf.cell 4 _ rfl
  have c5:=Xf.cell 5 _ rfl
  have c6:=Xf.cell 6 _ rfl
  have c7:=Xf.cell 7 _ rfl
  have c8:=Xf.cell 8 _ rfl
  have c9:=Xf.cell 9 _ rfl
  have c10:=Xf.cell 10 _ rfl
  have c11:=Xf.cell 11 _ rfl
  have c12:=Xf.cell 12 _ rfl
  have HXf:=Lib.hid Xf
  have HYf:=Lib.hid Yf
  have Bd:=Be.alloc Be.size (.cells #[.string ⟨tx.toArray⟩,.int .i64 sq,.string ⟨pv.toArray⟩,.string ⟨rt.toArray⟩,.int .i64 ct,.int .i64 lv,.bool ac,.slice oa no oc,.int .i64 k0,.int .i64 k1,.int .i64 k2,.slice ra ng rc,.slice (some ⟨bb,off,none⟩) nq pc] 30)
  have D9:=SBox.new wE 30 #[.string ⟨tx.toArray⟩,.int .i64 sq,.string ⟨pv.toArray⟩,.string ⟨rt.toArray⟩,.int .i64 ct,.int .i64 lv,.bool ac,.slice oa no oc,.int .i64 k0,.int .i64 k1,.int .i64 k2,.slice ra ng rc,.slice (some ⟨bb,off,none⟩) nq pc]
  have X9:=Xf.alloc (.cells #[.string ⟨tx.toArray⟩,.int .i64 sq,.string ⟨pv.toArray⟩,.string ⟨rt.toArray⟩,.int .i64 ct,.int .i64 lv,.bool ac,.slice oa no oc,.int .i64 k0,.int .i64 k1,.int .i64 k2,.slice ra ng rc,.slice (some ⟨bb,off,none⟩) nq pc] 30)
  have Y9:=Yf.alloc (.cells #[.string ⟨tx.toArray⟩,.int .i64 sq,.string ⟨pv.toArray⟩,.string ⟨rt.toArray⟩,.int .i64 ct,.int .i64 lv,.bool ac,.slice oa no oc,.int .i64 k0,.int .i64 k1,.int .i64 k2,.slice ra ng rc,.slice (some ⟨bb,off,none⟩) nq pc] 30)
  have hx9:=Xf.lt
  have hy9:=Yf.lt
  clear Xf Yf
  go_upto_region 6 with fail
  obtain ⟨W1,hW1⟩:∃ W,wE.alloc (.cells #[.string ⟨tx.toArray⟩,.int .i64 sq,.string ⟨pv.toArray⟩,.string ⟨rt.toArray⟩,.int .i64 ct,.int .i64 lv,.bool ac,.slice oa no oc,.int .i64 k0,.int .i64 k1,.int .i64 k2,.slice ra ng rc,.slice (some ⟨bb,off,none⟩) nq pc] 30)=W:=⟨_,rfl⟩
  rw [hW1] at Bd D9 X9 Y9 ⊢
  obtain ⟨b9,hb9⟩:∃ b,wE.heap.size=b:=⟨_,rfl⟩
  have hb9l:w.heap.size≤b9:=by rw [← hb9];exact Be.size
  rw [hb9] at D9 hx9 hy9 ⊢
  clear hW1 hb9 HXf HYf c0 c1 c2 c3 c4 c5 c6 c7 c8 c9 c10 c11 c12
  have hLq:Lq.length=nq:=by rw [HQp.out.1,HNq.out]
  have S0:=src_rec pfV_len (by omega) HQr.out (.inr ⟨_,_,_,rfl⟩)
  rw [hLq] at S0
  have HSRC:=Lib.hid S0
  have HONE:=Lib.hid (pfs_one15 HQp.out)
  have hb9s:=D9.lt
  have E1:=own_empty8 W1 55 6
  have D9a:=D9.alloc (.cells #[] 55)
  have X9a:=X9.alloc (.cells #[] 55)
  have T1:=(Below.refl W1.heap.size W1).alloc (Nat.le_refl _) (.cells #[] 55)
  have HBd:=Lib.hid Bd
  have c12:=X9a.cell 12 _ rfl
  have HE1:=Lib.hid E1
  have HT1:=Lib.hid T1
  clear S0 hLq X9a T1 Bd
  go_wp2_with (at_builtin;refine app17 rfl _ _ 28 55 6 80 (.agg #[.int .i64 0,.int .i64 0,.int .i64 0,.string ByteArray.empty,.string ByteArray.empty,.slice none 0 0]) rfl Tryz.underlying28 pf_infoM rfl (by decide) (by decide) W1.heap.size _ 0 [] rfl HE1.out _ nq (recV pfV Lq) rfl (HSRC.out.below (HBd.out.trans (HT1.out.mono HBd.out.size))) HONE.out (by omega) HT1.out.size ?_)
  intro v1 W2 h1 g1
  (try simp only [Nat.zero_add,List.nil_append] at h1)
  have T2:=HT1.out.grown g1 HT1.out.size (fun j ej=>(HE1.out.lt j ej).1)
  obtain ⟨gb,gc,rfl⟩:∃ gb gc,v1=.slice (some ⟨gb,0,none⟩) nq gc:=by
   rcases h1.2 with ⟨_,h0⟩ | ⟨g',c',cur,hv,_⟩
   ·omega
   ·exact ⟨_,_,hv⟩
  have hgb:=(h1.lt gb rfl).1
  have hgl:=(h1.lt gb rfl).2
  have D2:=D9.below T2
  have X2:=X9.below T2
  have Y2:=Y9.below T2
  have B2:=HBd.out.trans (T2.mono HBd.out.size)
  clear E1 HE1 T2 HT1 g1 D9 X9 Y9 D9a HBd c12 HSRC HONE
  have d12:=D2.cell 12 _ rfl
  have fd12:=D2.frozen 12
  have HD2:=Lib.hid D2
  have HX2:=Lib.hid X2
  have HY2:=Lib.hid Y2
  have HB2:=Lib.hid B2
  have Hh1:=Lib.hid h1
  clear D2 X2 Y2 B2 h1
  go_upto_region 7 with fail
  have D3:=HD2.out.set 12 (.slice (some ⟨gb,0,none⟩) nq gc)
  have X3:=HX2.out.other b9 12 (.slice (some ⟨gb,0,none⟩) nq gc) (by omega)
  have Y3:=HY2.out.other b9 12 (.slice (some ⟨gb,0,none⟩) nq gc) (by omega)
  have B3:=HB2.out.setCell (p:=⟨b9,12,none⟩) hb9l (.slice (some ⟨gb,0,none⟩) nq gc)
  have h3:(W2.setCell ⟨b9,12,none⟩ (.slice (some ⟨gb,0,none⟩) nq gc)).ownsRow W1.heap.size 55 6 (.slice (some ⟨gb,0,none⟩) nq gc) nq (recV pfV Lq):=owns_keep7 Hh1.out _ (fun e=>by have e':b9=gb:=Option.some.inj e;omega)
  change SBox _ b9 30 #[.string ⟨tx.toArray⟩,.int .i64 sq,.string ⟨pv.toArray⟩,.string ⟨rt.toArray⟩,.int .i64 ct,.int .i64 lv,.bool ac,.slice oa no oc,.int .i64 k0,.int .i64 k1,.int .i64 k2,.slice ra ng rc,.slice (some ⟨gb,0,none⟩) nq gc] at D3
  clear HD2 HX2 HY2 HB2 Hh1 d12 fd12
  generalize World.setCell W2 ⟨b9,12,none⟩ (.slice (some ⟨gb,0,none⟩) nq gc)=W3 at D3 X3 Y3 B3 h3 ⊢
  have hLq:Lq.length=nq:=by rw [HQp.out.1,HNq.out]
  have hmL:m < Lq.length:=by omega
  have d12:=D3.cell 12 _ rfl
  have y0:=Y3.cell 0 _ rfl
  have y1:=Y3.cell 1 _ rfl
  have y2:=Y3.cell 2 _ rfl
  have y3:=Y3.cell 3 _ rfl
  have s1:W3.cell? ⟨gb,m*6+1,none⟩=some (.int .i64 Lq[m].2.1.1):=by rw [h3.cellAt (m*6+1) (by omega),recV_get pfV_len Lq m hmL 1 (by omega)];rfl
  have s2:W3.cell? ⟨gb,m*6+2,none⟩=some (.int .i64 Lq[m].2.1.2.1):=by rw [h3.cellAt (m*6+2) (by omega),recV_get pfV_len Lq m hmL 2 (by omega)];rfl
  have s3:W3.cell? ⟨gb,m*6+3,none⟩=some (.string ⟨Lq[m].2.1.2.2.1.toArray⟩):=by rw [h3.cellAt (m*6+3) (by omega),recV_get pfV_len Lq m hmL 3 (by omega)];rfl
  have s4:W3.cell? ⟨gb,m*6+4,none⟩=some (.string ⟨Lq[m].2.1.2.2.2.toArray⟩):=by rw [h3.cellAt (m*6+4) (by omega),recV_get pfV_len Lq m hmL 4 (by omega)];rfl
  have fs1:=h3.frozenAt (m*6+1)
  have fs2:=h3.frozenAt (m*6+2)
  have fs3:=h3.frozenAt (m*6+3)
  have fs4:=h3.frozenAt (m*6+4)
  have i0:(m:Int) < (nq:Int):=by omega
  have i1:m < nq:=by omega
  have KP:=kept_putL (B:=gb) [.int .i64 x0,.int .i64 x1,.string ⟨x2.toArray⟩,.string ⟨x3.toArray⟩] (m*6+1) W3
  have D4:=D3.kept15 KP (by omega)
  have X4:=X3.kept15 KP (by omega)
  have Y4:=Y3.kept15 KP (by omega)
  have B4:=B3.grown KP B3.size (fun j ej=>by cases ej;omega)
  have h4:=owns_putR [.int .i64 x0,.int .i64 x1,.string ⟨x2.toArray⟩,.string ⟨x3.toArray⟩] (m*6+1) (recV pfV Lq) W3 h3
  rw [setsR_ev Lq m hmL (x0,x1,x2,x3)] at h4
  have hq2:m < q.length:=by rw [HNq.out];exact i1
  have hp2:=(HQp.out.below B4).set m hmL hq2 (x0,x1,x2,x3)
  have e2:(Lq.set m (Lq[m].1,(x0,x1,x2,x3),Lq[m].2.2)).length=nq:=by rw [List.length_set];exact hLq
  have hip:=IsPfs.own (by rw [e2];exact h4) hp2 (by omega)
  rw [HQm.out] at hip
  simp only at hip
  have HIP:=Lib.hid hip
  have HD4:=Lib.hid D4
  have HX4:=Lib.hid X4
  have HY4:=Lib.hid Y4
  have HB4:=Lib.hid B4
  clear KP D4 X4 Y4 B4 h4 hp2 hip e2 hLq D3 X3 Y3 B3 h3
  go_upto_region 8 with fail
  clear d12 y0 y1 y2 y3 s1 s2 s3 s4 fs1 fs2 fs3 fs4
  have D4:=HD4.out
  have X4:=HX4.out
  have Y4:=HY4.out
  have B4:=HB4.out
  have hip:=HIP.out
  clear HD4 HX4 HY4 HB4 HIP
  change SBox (World.setCell _ _ _) _ _ _ at D4
  change SBox (World.setCell _ _ _) _ _ _ at X4
  change SBox (World.setCell _ _ _) _ _ _ at Y4
  change Below _ _ (World.setCell _ _ _) at B4
  change IsPfs (World.setCell _ _ _) _ _ at hip
  generalize World.setCell (World.setCell _ _ _) _ _=W4 at D4 X4 Y4 B4 hip ⊢
  have C8:=HPv.out (q.set m (iy,(x0,x1,x2,x3),ip)) _ W4 B4 hip
  obtain ⟨pr,hpr⟩:∃ z,provL sumL (tx,sq,pv,rt,ct,(lv,ac,o,(k0,k1,k2),g),q.set m (iy,(x0,x1,x2,x3),ip)) rt=z:=⟨_,rfl⟩
  rw [hpr] at C8
  have HPr:=Lib.hid hpr
  clear hpr hip
  have d0:=D4.cell 0 _ rfl
  have d1:=D4.cell 1 _ rfl
  have d2:=D4.cell 2 _ rfl
  have d3:=D4.cell 3 _ rfl
  have d4:=D4.cell 4 _ rfl
  have d5:=D4.cell 5 _ rfl
  have d6:=D4.cell 6 _ rfl
  have d7:=D4.cell 7 _ rfl
  have d8:=D4.cell 8 _ rfl
  have d9:=D4.cell 9 _ rfl
  have d10:=D4.cell 10 _ rfl
  have d11:=D4.cell 11 _ rfl
  have d12:=D4.cell 12 _ rfl
  have c3:=X4.cell 3 _ rfl
  have HX4:=Lib.hid X4
  have HY4:=Lib.hid Y4
  clear D4 X4 Y4
  by_cases hz:pr=0
  rotate_left
  ·have hzb:(pr != 0)=true:=bne_iff_ne.2 hz
   go_wp2_with fail
   refine C8.mono ?_
   rintro e W5 ⟨rfl,b5⟩
   have B5:=B4.trans (b5.mono B4.size)
   clear C8
   go_wp2_with fail
   go_ret
   exact ⟨rfl,B5⟩
  subst hz
  have hU2:=((HPo2.out (q.set m (iy,(x0,x1,x2,x3),ip))).1 HPr.out).2.2
  have hck2:=pfU_at sumL rt ct (q.set m (iy,(x0,x1,x2,x3),ip)) (q.set m (iy,(x0,x1,x2,x3),ip)).length m (by rw [List.length_set];exact hq2) hU2
  rw [pf15_at _ m (by rw [List.length_set];exact hq2),List.getElem_set_self] at hck2
  simp only at hck2
  obtain ⟨ta,tb,hcl,hab,hsab⟩:=turned15 sumL sumL_len32 rt ct iy (p0,p1,p2,p3) (x0,x1,x2,x3) HPm.out HXm.out HNe.out ip HCk.out hck2
  have l1:=(bytE_len (p0,p1,p2,p3) HPm.out).1
  have l2:=(bytE_len (x0,x1,x2,x3) HXm.out).1
  obtain ⟨za,zb⟩:=clash_bound15 ct iy (bytE (p0,p1,p2,p3)) (by omega) ip (bytE (x0,x1,x2,x3)) (by omega) ip ta tb hcl
  have BY1:=Lib.hid (fun W=>rbytes6_any p0 p1 p2 p3 W)
  have BY2:=Lib.hid (fun W=>rbytes6_any x0 x1 x2 x3 W)
  simp only [bytesE_ok _ HPm.out,bytesE_ok _ HXm.out] at BY1 BY2
  have CL:=fun W (hb:Below w.heap.size w W)=>rclash_any ct iy (bytE (p0,p1,p2,p3)) (by omega) ip u (bytE (x0,x1,x2,x3)) (by omega) ip u W (Hu.out.below hb) (Hu.out.below hb)
  rw [hcl] at CL
  simp only [unV] at CL
  have HCL:=Lib.hid CL
  have SM1:=Lib.hid (fun W=>rsG_any ta (by omega) W)
  have SM2:=Lib.hid (fun W=>rsG_any tb (by omega) W)
  obtain ⟨sa,hsa⟩:∃ z,sumL ta=z:=⟨_,rfl⟩
  rw [hsa] at SM1
  rw [← hsab,hsa] at SM2
  obtain ⟨bp,hbp⟩:∃ z,bytE (p0,p1,p2,p3)=z:=⟨_,rfl⟩
  obtain ⟨bx,hbx⟩:∃ z,bytE (x0,x1,x2,x3)=z:=⟨_,rfl⟩
  rw [hbp] at BY1 HCL
  rw [hbx] at BY2 HCL
  have hne1:(ta==tb)=false:=beq_eq_false_iff_ne.2 hab
  clear hU2 hck2 hcl hsab l1 l2 CL hsa hbp hbx za zb
  go_wp2_with fail
  refine C8.mono ?_
  rintro e W5 ⟨rfl,b5⟩
  have B5:=B4.trans (b5.mono B4.size)
  have X5:=HX4.out.below b5
  have Y5:=HY4.out.below b5
  clear C8 HX4 HY4 b5 B4 d0 d1 d2 d3 d4 d5 d6 d7 d8 d9 d10 d11 d12 c3
  have c12:=X5.cell 12 _ rfl
  obtain ⟨v0,v1,v2,v3,v4,v5⟩:=HQ1.out W5 B5
  go_wp2_with fail
  refine (BY1.out _).mono ?_
  rintro e W6 ⟨rfl,b6⟩
  have B6:=B5.trans (b6.mono B5.size)
  have X6:=X5.below b6
  have Y6:=Y5.below b6
  clear X5 Y5 b6 B5 c12 v0 v1 v2 v3 v4 v5
  have y0:=Y6.cell 0 _ rfl
  have y1:=Y6.cell 1 _ rfl
  have y2:=Y6.cell 2 _ rfl
  have y3:=Y6.cell 3 _ rfl
  go_wp2_with fail
  refine (BY2.out _).mono ?_
  rintro e W7 ⟨rfl,b7⟩
  have B7:=B6.trans (b7.mono B6.size)
  have X7:=X6.below b7
  clear X6 Y6 b7 B6 y0 y1 y2 y3 BY1 BY2
  have c4:=X7.cell 4 _ rfl
  have c12:=X7.cell 12 _ rfl
  obtain ⟨v0,v1,v2,v3,v4,v5⟩:=HQ1.out W7 B7
  clear X7
  go_upto_region 12 with fail
  refine region_far (by kernel_rfl) (by kernel_rfl) ?_
  repeat (first | go_big_quiet_skip | (go_big_quiet_want;go_big_quiet_op;first | go_big_quiet_on | go_big_quiet_call (first | (go_at_call 28;exact calls_far (HCL.out _ (bel_trans B7 (farW_bel _ _)))))))
  refine wpQuiet_nil ?_
  rintro w' ⟨U,rfl⟩
  have B8:=bel_trans B7 (farW_bel W7 U)
  generalize farW W7 U=W8 at B8 ⊢
  clear c4 c12 v0 v1 v2 v3 v4 v5 B7
  go_wp2_with fail
  refine (SM1.out _).mono ?_
  rintro e W9 ⟨rfl,b9'⟩
  have B9:=B8.trans (b9'.mono B8.size)
  go_wp2_with fail
  refine (SM2.out _).mono ?_
  rintro e W10 ⟨rfl,b10⟩
  have B10:=B9.trans (b10.mono B9.size)
  go_wp2_with fail
  go_ret
  exact ⟨rfl,B10⟩
 all_goals
  (try simp only [Bool.not_true] at g5b)
  go_upto_region 3 with fail
  refine region_far (by kernel_rfl) (by kernel_rfl) ?_
  repeat (first | go_big_quiet_skip | (go_big_quiet_want;go_big_quiet_op;first | go_big_quiet_on | go_big_quiet_call (first | (go_at_call 13;exact calls_far (CK.out _ (bel_trans Bc (farW_bel _ _)))))))
  refine wpQuiet_nil ?_
  rintro w' ⟨U,rfl⟩
  have Be:=bel_trans Bc (farW_bel w2 U)
  generalize farW w2 U=wE at Be ⊢
  go_wp2_with fail
  go_ret
  exact ⟨rfl,Be⟩
theorem turned15_all (C:P15C) (w:World) (hGl:G w) (c:Ct) (vo vr vp:Value) (A:CtAt w c vo vr vp) (i x0 x1:Int) (x2 x3:List UInt8) :
 Calls Tryz.prog 6 #[.agg (ctC c vo vr vp),.int .i64 i,.agg #[.int .i64 x0,.int .i64 x1,.string ⟨x2.toArray⟩,.string ⟨x3.toArray⟩]] w fun e w'=>e=.returned (.bool true)∧Below w.heap.size w w':=by
 obtain ⟨tx,sq,pv,rt,ct,⟨lv,ac,o,⟨k0,k1,k2⟩,g⟩,q⟩:=c
 obtain ⟨h1,h2,h3⟩:=A
 simp only at h1 h2 h3
 obtain ⟨oa,oc,rfl,_⟩:=h1.some_at
 obtain ⟨ra,rc,rfl,_⟩:=h2.some_at
 obtain ⟨pa,pc,rfl,_⟩:=h3.len
 exact turned15_walk C w hGl tx sq pv rt ct lv k0 k1 k2 ac oa oc o ra rc g pa pc q h1 h2 h3 i x0 x1 x2 x3
end Go.Proofs.YthamoeekiglphaaGreatDoor
