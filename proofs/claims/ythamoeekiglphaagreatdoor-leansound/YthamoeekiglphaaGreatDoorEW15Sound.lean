/-
  The walk of LeanSound.
-/
import Derived.Test.YthamoeekiglphaaGreatDoorEShown15
import Derived.Test.YthamoeekiglphaaGreatDoorEL4a
import Derived.Test.YthamoeekiglphaaGreatDoorER12Good
namespace Go.Proofs.YthamoeekiglphaaGreatDoor
set_option maxRecDepth 100000
open Go.RowKit
set_option linter.unusedVariables false
attribute [local go_sem] ba_size farW_cell
theorem leaves_ok15 {h:List Ev} (e:(leavesE h).2=0):h.length≤256∧allMay h∧leavesE h=(h.map bytE,0):=by
 by_cases h1:256 < h.length
 ·rw [leavesE_big h h1] at e;cases e
 ·by_cases h2:allMay h
  ·exact ⟨by omega,h2,leavesE_ok h h1 h2⟩
  ·exfalso
   unfold allMay at h2;have:∃ x∈h,¬ mayE x:=Classical.byContradiction fun hc=>h2 fun x hx=>Classical.byContradiction fun hm=>hc ⟨x,hx,hm⟩
   obtain ⟨x,hx,hm⟩:=this;obtain ⟨k,hk,rfl⟩:=List.getElem_of_mem hx;rw [leavesE_bad h h1 k hk hm] at e;cases e
set_option maxHeartbeats 16000000 in
theorem sound15_walk (C:P15C) (w:World) (hGl:G w) (h:List Ev) (vh:Value) (hT:IsEvs w vh h) (tx:List UInt8) (sq:Int) (pv rt:List UInt8) (ct lv k0 k1 k2:Int) (ac:Bool) (oa:Option Addr) (oc:Nat) (o:List Int) (ra:Option Addr) (rc:Nat) (g:List Ed) (pa:Option Addr) (pc:Nat) (q:List Pf) (hO:IsInts w (.slice oa o.length oc) o) (hR:IsEds w (.slice ra g.length rc) g) (hP:IsPfs w (.slice pa q.length pc) q) :
 Calls Tryz.prog 4 #[vh,.agg #[.string ⟨tx.toArray⟩,.int .i64 sq,.string ⟨pv.toArray⟩,.string ⟨rt.toArray⟩,.int .i64 ct,.int .i64 lv,.bool ac,.slice oa o.length oc,.int .i64 k0,.int .i64 k1,.int .i64 k2,.slice ra g.length rc,.slice pa q.length pc]] w fun e w'=>e=.returned (.bool true)∧Below w.heap.size w w':=by
 have hg3:=hGl.size;have hA:CtAt w (tx,sq,pv,rt,ct,(lv,ac,o,(k0,k1,k2),g),q) (.slice oa o.length oc) (.slice ra g.length rc) (.slice pa q.length pc):=⟨hO,hR,hP⟩;have HSh:=Lib.hid (fun W (hb:Below w.heap.size w W)=>shown15_any C W (hGl.below hb hg3));have HFo:=Lib.hid (fun W (hb:Below w.heap.size w W)=>rformed_any h vh W (hT.below hb));have HLe:=Lib.hid (fun W (hb:Below w.heap.size w W)=>rleaves_any h vh W (hT.below hb));have HGo:=Lib.hid (fun W (hb:Below w.heap.size w W) (hw:WF h) (hl:lv=1∨lv=2)=>rgood_any h vh W lv (hT.below hb) hw hl);have P3:=fun W (hb:Below w.heap.size w W) (root:List UInt8)=>C.check (tx,sq,pv,rt,ct,(lv,ac,o,(k0,k1,k2),g),q) _ _ _ root W (hGl.below hb hg3) (hA.below hb)
 obtain ⟨ah,ch,rfl,_,_,_,_⟩:=hT.some_at;obtain ⟨pa2,pc2,hpe,_,_,q3,HCq⟩:=hP.reads;obtain ⟨rfl,rfl⟩:pa=pa2∧pc=pc2:=by simpa using hpe
 obtain ⟨n,hn⟩:∃ n,h.length=n:=⟨_,rfl⟩;obtain ⟨no,hno⟩:∃ m,o.length=m:=⟨_,rfl⟩;obtain ⟨ng,hng⟩:∃ m,g.length=m:=⟨_,rfl⟩;obtain ⟨nq,hnq⟩:∃ m,q.length=m:=⟨_,rfl⟩;have HN:=Lib.hid hn;have HNq:=Lib.hid hnq;simp only [hn] at HFo HLe HGo ⊢;simp only [hno,hng,hnq] at P3 ⊢;have CK:=Lib.hid P3;have X0:=SBox.new w 30 #[.string ⟨tx.toArray⟩,.int .i64 sq,.string ⟨pv.toArray⟩,.string ⟨rt.toArray⟩,.int .i64 ct,.int .i64 lv,.bool ac,.slice oa no oc,.int .i64 k0,.int .i64 k1,.int .i64 k2,.slice ra ng rc,.slice pa nq pc];have B0:=(Below.refl w.heap.size w).alloc (Nat.le_refl _) (.cells #[.string ⟨tx.toArray⟩,.int .i64 sq,.string ⟨pv.toArray⟩,.string ⟨rt.toArray⟩,.int .i64 ct,.int .i64 lv,.bool ac,.slice oa no oc,.int .i64 k0,.int .i64 k1,.int .i64 k2,.slice ra ng rc,.slice pa nq pc] 30)
 clear hO hR hP hA hT hn hno hng hnq P3 hGl hpe;go_enter Tryz.func4,Tryz.ntmps4
 go_wp2_with fail
 refine (HSh.out _ B0).mono ?_;rintro e w1 ⟨rfl,b1⟩;have B1:=B0.trans (b1.mono B0.size);have X1:=X0.below b1;clear X0 B0 b1;obtain ⟨f1,hf1⟩:∃ z,(formedL h).1=z:=⟨_,rfl⟩;obtain ⟨f2,hf2⟩:∃ z,(formedL h).2=z:=⟨_,rfl⟩;rw [hf1,hf2] at HFo;have HF2:=Lib.hid hf2;clear hf1 hf2;go_wp2_with fail
 refine (HFo.out _ B1).mono ?_;rintro e w2 ⟨rfl,b2⟩;have B2:=B1.trans (b2.mono B1.size);have X2:=X1.below b2;clear X1 B1 b2;obtain ⟨⟨L,eL⟩,hle⟩:∃ z,leavesE h=z:=⟨_,rfl⟩;rw [hle] at HLe;have HLV:=Lib.hid hle;clear hle;go_wp2_with fail
 refine (HLe.out _ B2).mono ?_;rintro e w3 ⟨vl,rfl,b3,R3⟩;simp only at R3;have B3:=B2.trans (b3.mono B2.size);have X3:=X2.below b3
 have hLb:L.length≤256∧∀ t∈L,t.length≤80:=by
  have e:=HLV.out
  by_cases h1:256 < h.length
  ·rw [leavesE_big h h1] at e;cases e;exact ⟨by simp,fun t ht=>by cases ht⟩
  ·by_cases h3:allMay h
   ·rw [leavesE_ok h h1 h3] at e
    cases e;refine ⟨by rw [List.length_map];omega,fun t ht=>?_⟩;obtain ⟨x,hx,rfl⟩:=List.mem_map.1 ht;exact (bytE_len x (h3 x hx)).1
   ·unfold leavesE at e
    rw [if_neg h1,if_neg h3] at e;cases e;exact ⟨by simp,fun t ht=>by cases ht⟩
 obtain ⟨hLn,hL80⟩:=hLb;have hTx3:IsTxt w3 vl L:=IsTxt.own R3 (by omega) (fun t ht=>by have:=hL80 t ht;omega);obtain ⟨la,lc,rfl,-,-,-⟩:=hTx3.len;have HRo:=rroot_any L _ w3 hTx3 (by omega);obtain ⟨rt0,hrt0⟩:∃ z,rootL sumL L=z:=⟨_,rfl⟩;rw [hrt0] at HRo;have HRT:=Lib.hid hrt0;clear hrt0;go_wp2_with fail
 refine HRo.mono ?_;rintro e w4 ⟨rfl,b4⟩;have Bc:=B3.trans (b4.mono B3.size);have X4:=X3.below b4;have R4:=hTx3.below b4;clear X3 B3 b4 R3 hTx3 HRo;have c0:=X4.cell 0 _ rfl;have c1:=X4.cell 1 _ rfl;have c2:=X4.cell 2 _ rfl;have c3:=X4.cell 3 _ rfl;have c4:=X4.cell 4 _ rfl;have c5:=X4.cell 5 _ rfl;have c6:=X4.cell 6 _ rfl;have c7:=X4.cell 7 _ rfl;have c8:=X4.cell 8 _ rfl;have c9:=X4.cell 9 _ rfl;have c10:=X4.cell 10 _ rfl;have c11:=X4.cell 11 _ rfl;have c12:=X4.cell 12 _ rfl;have HX:=Lib.hid X4;have HR4:=Lib.hid R4;obtain ⟨le,hle⟩:∃ z,leanL sumL (tx,sq,pv,rt,ct,(lv,ac,o,(k0,k1,k2),g),q) rt0=z:=⟨_,rfl⟩;have CKr0:=fun W (hb:Below w.heap.size w W)=>CK.out W hb rt0
 simp only [hle] at CKr0;have CKr:=Lib.hid CKr0;clear CKr0;have HLE:=Lib.hid hle;clear hle;clear X4 R4;obtain ⟨r1,g1⟩:∃ r,((f2:Int) != 0)=r:=⟨_,rfl⟩;have g1b:((f2:Int)==0)=!r1:=by rw [← g1];unfold bne;rw [Bool.not_not]
 obtain ⟨r2,g2⟩:∃ r,((eL:Int) != 0)=r:=⟨_,rfl⟩;have g2b:((eL:Int)==0)=!r2:=by rw [← g2];unfold bne;rw [Bool.not_not]
 obtain ⟨r3,g3⟩:∃ r,decide (60 < n)=r:=⟨_,rfl⟩;have g3b:decide ((n:Int) > 60)=r3:=by rw [← g3];exact decide_eq_decide.2 (by omega)
 have g3c:decide (60 < (n:Int))=r3:=by rw [← g3];exact decide_eq_decide.2 (by omega)
 obtain ⟨r4,g4⟩:∃ r,decide (60 < nq)=r:=⟨_,rfl⟩;have g4b:decide ((nq:Int) > 60)=r4:=by rw [← g4];exact decide_eq_decide.2 (by omega)
 have g4c:decide (60 < (nq:Int))=r4:=by rw [← g4];exact decide_eq_decide.2 (by omega)
 obtain ⟨r5,g5⟩:∃ r,(le != 0)=r:=⟨_,rfl⟩;have g5b:(le==0)=!r5:=by rw [← g5];unfold bne;rw [Bool.not_not]
 have H:r1=true∨(r1=false∧r2=true)∨(r1=false∧r2=false∧r3=true)∨(r1=false∧r2=false∧r3=false∧r4=true)∨(r1=false∧r2=false∧r3=false∧r4=false∧r5=true)∨(r1=false∧r2=false∧r3=false∧r4=false∧r5=false):=by cases r1<;>cases r2<;>cases r3<;>cases r4<;>cases r5<;>simp
 rcases H with rfl | ⟨rfl,rfl⟩ | ⟨rfl,rfl,rfl⟩ | ⟨rfl,rfl,rfl,rfl⟩ | ⟨rfl,rfl,rfl,rfl,rfl⟩ | ⟨rfl,rfl,rfl,rfl,rfl⟩
 rotate_right
 ·simp only [Bool.not_false] at g1b g2b g5b
  go_wp2_with fail
  refine (CKr.out w4 Bc).mono ?_;rintro e w5 ⟨rfl,b5⟩;have B5:=bel_trans Bc b5;have X5:=HX.out.below b5;have R5:=HR4.out.below b5;have hf2:f2=0:=by simpa using g1
  have hL0:eL=0:=by simpa using g2
  have hn60:n≤60:=by have:=of_decide_eq_false g3;omega
  have hq60:nq≤60:=by have:=of_decide_eq_false g4;omega
  have hle0:le=0:=by simpa using g5
  have hWF:WF h:=(formed_ok h).1 (by rw [HF2.out];exact hf2);obtain ⟨hl256,hAll,hLeq⟩:=leaves_ok15 (h:=h) (by rw [HLV.out];exact hL0);have hLm:L=h.map bytE:=by have:=HLV.out;rw [hLeq] at this;exact (Prod.mk.inj this).1.symm
  have hlean:leanL sumL (tx,sq,pv,rt,ct,(lv,ac,o,(k0,k1,k2),g),q) rt0=0:=by rw [HLE.out];exact hle0
  obtain ⟨hp0,-,-⟩:=lean_ok sumL (tx,sq,pv,rt,ct,(lv,ac,o,(k0,k1,k2),g),q) rt0 hlean;obtain ⟨hmay,hrtE,hpU⟩:=(prov_ok sumL (tx,sq,pv,rt,ct,(lv,ac,o,(k0,k1,k2),g),q) rt0).1 hp0;have HPF:Hid (∀ k (hk:k < q.length),mayE (q[k]).2.1∧checkL sumL rt0 ct (q[k]).1 (bytE (q[k]).2.1) (q[k]).2.2=0):=fun k hk=>⟨(hmay.2.2.2 _ (List.getElem_mem hk)).1.2,by have:=pfU_at sumL rt0 ct q q.length k hk hpU;rw [pf15_at q k hk] at this;exact this⟩
  have HEND:Hid ((∀ p∈q,∃ i:Nat,p.1=(i:Int)∧i < h.length∧p.2.1=ev h i)→¬ goodL h lv):=fun hh=>sound15 sumL h hWF (tx,sq,pv,rt,ct,(lv,ac,o,(k0,k1,k2),g),q) rt0 hlean hh
  have hlv:lv=1∨lv=2:=by
   have h0:=hmay.2.1.1.1;simp only at h0;omega
  have HWF:=Lib.hid (And.intro hWF hlv);have HLM:=Lib.hid (And.intro hLm hAll);clear hf2 hL0 hle0 hWF hl256 hAll hLeq hLm hlean hp0 hmay hrtE hpU hlv g1 g1b g2 g2b g3 g3b g3c g4 g4b g4c HF2 HLV HLE CK HFo HLe HSh;clear c0 c1 c2 c3 c4 c5 c6 c7 c8 c9 c10 c11 c12 Bc CKr HX HR4 b5;obtain ⟨cr,hcr⟩:∃ z,crownL sumL L=z:=⟨_,rfl⟩;have hcl:cr.length≤32:=by rw [← hcr];exact crownL_le sumL sumL_len L
  have HCr:=rcrown_any L _ w5 R5;rw [hcr] at HCr;have HCR:=Lib.hid hcr;clear hcr;go_wp2_with fail
  refine HCr.mono ?_;rintro e w6 ⟨rfl,b6⟩;have B6:=bel_trans B5 b6;have X6:=X5.below b6;have R6:=R5.below b6;clear B5 X5 R5 b6 HCr;have HRi:=rrootIn_any L.length (by omega) cr hcl w6;obtain ⟨ow,how⟩:∃ z,rootI L.length cr=z:=⟨_,rfl⟩;rw [how] at HRi;have HOW:=Lib.hid how;have how50:ow.length≤50:=by rw [← how];exact rootI_len _ _ hcl
  clear how;go_wp2_with fail
  refine HRi.mono ?_;rintro e w7 ⟨rfl,b7⟩;have B7:=bel_trans B6 b7;have X7:=X6.below b7;have R7:=R6.below b7;clear B6 X6 R6 b7 HRi;go_wp2_with fail
  go_loopw [13] (fun i wr=>∃ a:Nat,a≤nq∧i=.int .i64 a∧Hid (∀ k (hk:k < q.length),k < a→∃ i:Nat,(q[k]).1=(i:Int)∧i < h.length∧(q[k]).2.1=ev h i)∧Below w.heap.size w wr∧SBox wr w.heap.size 30 #[.string ⟨tx.toArray⟩,.int .i64 sq,.string ⟨pv.toArray⟩,.string ⟨rt.toArray⟩,.int .i64 ct,.int .i64 lv,.bool ac,.slice oa no oc,.int .i64 k0,.int .i64 k1,.int .i64 k2,.slice ra ng rc,.slice pa nq pc]∧IsTxt wr (.slice la L.length lc) L) (fun i _=>nq - (RowKit.intOf i).toNat)
  case atStart=>exact ⟨0,Nat.zero_le _,rfl,(fun _ _ hx=>by omega),B7,X7,R7⟩
  case round =>
   obtain ⟨a,ha,rfl,HT,hB,hX,hR⟩:=hrel;clear B7 X7 R7;obtain ⟨wP,hwP⟩:∃ wP,wP=wr:=⟨_,rfl⟩;subst hwP
   by_cases hlt:a < nq
   ·have haq:a < q.length:=by have:=HNq.out;omega
    have i0:(a:Int) < (nq:Int):=by omega
    obtain ⟨bb,off,rfl,u,hu,HQ⟩:=HCq.out a haq;obtain ⟨v0,v1,v2,v3,v4,v5⟩:=HQ wP hB;have hPF:=HPF.out a haq;obtain ⟨⟨iy,⟨p0,p1,p2,p3⟩,ip⟩,hq⟩:∃ z,q[a]=z:=⟨_,rfl⟩;have HQm:=Lib.hid hq;rw [hq] at v0 v1 v2 v3 v4 hu hPF;simp only at v0 v1 v2 v3 v4 hu hPF;obtain ⟨hpm,hck⟩:=hPF;rw [← HRT.out] at hck;have H15:=Lib.hid (one15 sumL sumL_len32 L hLn ct iy (bytE (p0,p1,p2,p3)) ip hck);have hs80:=(bytE_len (p0,p1,p2,p3) hpm).1;have hBy:=fun W=>rbytes6_any p0 p1 p2 p3 W
    rw [bytesE_ok _ hpm] at hBy;obtain ⟨s,hs⟩:∃ z,bytE (p0,p1,p2,p3)=z:=⟨_,rfl⟩;have HS:=Lib.hid hs;rw [hs] at hBy hs80 H15;simp only at hBy;have hcl1:=H15.out.1;have hrows:=climb_rows sumL sumL_len32 ct iy s ip hcl1;have hCl:=fun (vu:Value) W (hh:IsTxt W vu ip)=>rclimb_any ct iy s (by omega) ip vu W hh
    clear hq HQ hs hpm hck hcl1;obtain ⟨ua,uc,rfl,hu2,hu3,hu4⟩:=hu.len;have HU:=Lib.hid hu;clear hu;have c0:=hX.cell 0 _ rfl;have c1:=hX.cell 1 _ rfl;have c2:=hX.cell 2 _ rfl;have c3:=hX.cell 3 _ rfl;have c4:=hX.cell 4 _ rfl;have c5:=hX.cell 5 _ rfl;have c6:=hX.cell 6 _ rfl;have c7:=hX.cell 7 _ rfl;have c8:=hX.cell 8 _ rfl;have c9:=hX.cell 9 _ rfl;have c10:=hX.cell 10 _ rfl;have c11:=hX.cell 11 _ rfl;have c12:=hX.cell 12 _ rfl;have B8:=hB.alloc hB.size (.cells #[.int .i64 iy,.int .i64 p0,.int .i64 p1,.string ⟨p2.toArray⟩,.string ⟨p3.toArray⟩,.slice ua ip.length uc] 55);have D8:=SBox.new wP 55 #[.int .i64 iy,.int .i64 p0,.int .i64 p1,.string ⟨p2.toArray⟩,.string ⟨p3.toArray⟩,.slice ua ip.length uc]
    have X8:=hX.alloc (.cells #[.int .i64 iy,.int .i64 p0,.int .i64 p1,.string ⟨p2.toArray⟩,.string ⟨p3.toArray⟩,.slice ua ip.length uc] 55);have R8:=hR.below ((Below.refl wP.heap.size wP).alloc (Nat.le_refl _) (.cells #[.int .i64 iy,.int .i64 p0,.int .i64 p1,.string ⟨p2.toArray⟩,.string ⟨p3.toArray⟩,.slice ua ip.length uc] 55));have U8:=HU.out.below B8;have hxl:=hX.lt;go_upto_region 12 with fail
    generalize wP.alloc (.cells #[.int .i64 iy,.int .i64 p0,.int .i64 p1,.string ⟨p2.toArray⟩,.string ⟨p3.toArray⟩,.slice ua ip.length uc] 55)=w8 at B8 D8 X8 R8 U8 ⊢;obtain ⟨bp,hbp⟩:∃ z,wP.heap.size=z:=⟨_,rfl⟩;have hbpl:w.heap.size≤bp:=by rw [← hbp];exact hB.size
    rw [hbp] at D8 hxl ⊢;clear c0 c1 c2 c3 c4 c5 c6 c7 c8 c9 c10 c11 c12 v0 v1 v2 v3 v4 v5 hB hX hR HU hbp;obtain ⟨⟨cl,ce⟩,hC⟩:∃ z,climbL sumL ct iy s ip=z:=⟨_,rfl⟩;have hC0:=hC;rw [hC] at H15 hrows hCl;have HC:=Lib.hid hC0;clear hC hC0;obtain rfl:ce=0:=H15.out.1;simp only at hrows hCl;have d0:=D8.cell 0 _ rfl;have d1:=D8.cell 1 _ rfl;have d2:=D8.cell 2 _ rfl;have d3:=D8.cell 3 _ rfl;have d4:=D8.cell 4 _ rfl;have d5:=D8.cell 5 _ rfl;have HD8:=Lib.hid D8;have HX8:=Lib.hid X8;clear D8 X8;go_wp2_with fail
    refine (hBy w8).mono ?_;rintro e w9 ⟨rfl,b9⟩;have B9:=bel_trans B8 b9;have D9:=HD8.out.below b9;have X9:=HX8.out.below b9;have R9:=R8.below b9;have U9:=U8.below b9;clear d0 d1 d2 d3 d4 d5 HD8 HX8 B8 R8 U8 b9 hBy;have d0:=D9.cell 0 _ rfl;have d1:=D9.cell 1 _ rfl;have d2:=D9.cell 2 _ rfl;have d3:=D9.cell 3 _ rfl;have d4:=D9.cell 4 _ rfl;have d5:=D9.cell 5 _ rfl;have c4:=X9.cell 4 _ rfl;have HD9:=Lib.hid D9;have HX9:=Lib.hid X9;clear D9 X9;go_wp2_with fail
    refine (hCl _ w9 U9).mono ?_;intro e w10 hres;obtain ⟨r,rfl,b10,O10⟩:=hres;have B10:=bel_trans B9 b10;have D10:=HD9.out.below b10;have X10:=HX9.out.below b10;have R10:=R9.below b10;have U10:=U9.below b10;clear d0 d1 d2 d3 d4 d5 c4 HD9 HX9 B9 R9 U9 b10 hCl;have hT10:IsTxt w10 r cl:=IsTxt.own O10 (by show cl.length≤_;omega) (fun t ht=>by have:=hrows.2.2 t ht;omega);obtain ⟨gB,goff,gcap,rfl,hglt,gc1,gc2,gn,GC⟩:=hT10.at hrows.2.1;have hLe:cl.getLastD []=cl[cl.length - 1]'(by omega):=by rw [List.getLastD_eq_getLast?,List.getLast?_eq_getElem?,List.getElem?_eq_getElem (by omega)];rfl
    have dt:w10.cell? ⟨gB,goff+(cl.length - 1),none⟩=some (.string ⟨(cl.getLastD []).toArray⟩):=by rw [hLe];exact GC.out (cl.length - 1) (by omega)
    obtain ⟨tp,htp⟩:∃ z,cl.getLastD []=z:=⟨_,rfl⟩;have htl:tp.length≤145:=by rw [← htp,hLe];have:=hrows.2.2 _ (List.getElem_mem (show cl.length - 1 < cl.length by omega));omega
    rw [htp] at dt H15;clear hLe htp GC hT10 O10;obtain ⟨d,hd⟩:∃ d,cl.length=d:=⟨_,rfl⟩;have hd0:0 < d:=by rw [← hd];exact hrows.2.1
    rw [hd] at dt gc1 gn ⊢;have j1:((d:Int)==0)=false:=by rw [beq_eq_false_iff_ne];omega
    have j2:¬ (d:Int)=0:=by omega
    have j3:IntKind.i64.wrap ((d:Int) - 1)=((d - 1:Nat):Int):=by rw [IntKind.wrap_i64]<;>omega
    clear hd hrows;have d0:=D10.cell 0 _ rfl;have d1:=D10.cell 1 _ rfl;have d2:=D10.cell 2 _ rfl;have d3:=D10.cell 3 _ rfl;have d4:=D10.cell 4 _ rfl;have d5:=D10.cell 5 _ rfl;have HD10:=Lib.hid D10;have HX10:=Lib.hid X10;clear D10 X10;have HU10:=Lib.hid U10;have HB10:=Lib.hid B10;have hsum:sumL tp=sumL ow:=by have:=H15.out.2.2.1;rw [HCR.out,HOW.out] at this;exact this
    have hend:=H15.out.2.2.2;rw [HCR.out,HOW.out] at hend;have HN15:=Lib.hid hend;clear hend H15 U10 B10
    by_cases htop:tp=ow
    rotate_left
    ·have e1:(tp==ow)=false:=beq_eq_false_iff_ne.2 htop
     have S1:=Lib.hid (fun W=>rsG_any tp (by omega) W);have S2:=Lib.hid (fun W=>rsG_any ow (by omega) W);rw [hsum] at S1;obtain ⟨sv,hsv⟩:∃ z,sumL ow=z:=⟨_,rfl⟩;rw [hsv] at S1 S2;clear hsum hsv HN15;go_wp2_with fail
     refine (S1.out _).mono ?_;rintro e w11 ⟨rfl,b11⟩;have B11:=bel_trans HB10.out b11;go_wp2_with fail
     refine (S2.out _).mono ?_;rintro e w12 ⟨rfl,b12⟩;have B12:=bel_trans B11 b12;go_wp2_with fail
     go_ret
     exact ⟨rfl,B12⟩
    subst htop;obtain ⟨hct,hi0,hiL,hcl2⟩:=HN15.out rfl;obtain ⟨I,rfl⟩:∃ I:Nat,iy=(I:Int):=⟨iy.toNat,by omega⟩;have hIL:I < L.length:=by omega
    rw [Int.toNat_natCast] at hcl2;have HCL2:=Lib.hid (hcl2 hIL);have HCT:=Lib.hid hct;clear hcl2 HN15 hsum HC hct hi0 hiL;have m1:¬ (I:Int) < 0:=by omega
    have m2:¬ (L.length:Int)≤(I:Int):=by omega
    have HR10:=Lib.hid R10;obtain ⟨lb,loff,lcap,hle2,hlblt,lc1,lc2,ln,LC⟩:=R10.at (by omega);obtain ⟨rfl,rfl⟩:la=some ⟨lb,loff,none⟩∧lc=lcap:=by simpa using hle2
    have dl:=LC.out I hIL;have hl80:=hL80 _ (List.getElem_mem hIL);obtain ⟨LI,hLI⟩:∃ z,L[I]=z:=⟨_,rfl⟩;have HLI:=Lib.hid hLI;rw [hLI] at dl hl80 HCL2;clear hLI LC hle2;have HPa:=Lib.hid (fun W (hh:IsTxt W (.slice (some ⟨lb,loff,none⟩) L.length lc) L)=>rpath_any L.length L _ W I rfl (by omega) hIL hh);have hq32:=pathL_32 sumL sumL_len32 L.length L I rfl hIL;have hqln:=pathL_le sumL L I (Nat.le_refl _);obtain ⟨pth,hpth⟩:∃ z,pathL sumL L I=z:=⟨_,rfl⟩;rw [hpth] at HPa hq32 hqln HCL2;have HK:=Lib.hid (fun (va vb:Value) W (h1:IsTxt W va ip) (h2:IsTxt W vb pth)=>rclash_any ct (I:Int) s (by omega) ip va LI (by omega) pth vb W h1 h2);have HBD:=Lib.hid (fun x y (hh:clashL sumL ct (I:Int) s ip LI pth=some (x,y))=>clash_bound15 ct (I:Int) s (by omega) ip LI (by omega) pth x y hh)
    clear hpth;have i1:(I:Int) < (L.length:Int):=by omega
    have ha1:I+1≤9223372036854775807:=by omega
    have HQ32:=Lib.hid hq32;have HQL:=Lib.hid hqln;have HL80:=Lib.hid hl80;have HA:=Lib.hid hL80;clear hq32 hqln hl80 hL80
    by_cases hsl:s=LI
    ·have hIh:I < h.length:=by have:=congrArg List.length HLM.out.1;rw [List.length_map] at this;omega
     obtain ⟨x,hx⟩:∃ z,h[I]=z:=⟨_,rfl⟩;have hev:ev h I=x:=by rw [← hx];exact ev_get h I hIh
     have hbx:bytE x=LI:=by rw [← HLI.out,← hx];simp only [HLM.out.1,List.getElem_map]
     have hmx:mayE x:=by rw [← hx];exact HLM.out.2 _ (List.getElem_mem hIh)
     have hpq:=(HPF.out a haq).1;rw [HQm.out] at hpq;have hpx:(p0,p1,p2,p3)=x:=byt_inj _ _ hpq hmx (by rw [HS.out,hbx,hsl])
     have HTn:Hid (∀ k (hk:k < q.length),k < a+1→∃ i:Nat,(q[k]).1=(i:Int)∧i < h.length∧(q[k]).2.1=ev h i):=fun k hk hka=>by
      by_cases e:k=a
      ·subst e;exact ⟨I,by rw [HQm.out],hIh,by rw [HQm.out,hev];exact hpx⟩
      ·exact HT.out k hk (by omega)
     clear hx hIh hev hbx hmx hpq hpx;subst hsl;go_wp2_with fail
     go_roundw
     case rel=>exact ⟨a+1,by omega,by first | go_num | simp,HTn,HB10.out,HX10.out,HR10.out⟩
     case measure=>simp [RowKit.intOf];omega
    ·have e2:(s==LI)=false:=beq_eq_false_iff_ne.2 hsl
     obtain ⟨x,y,hcx,hxy,hsxy⟩:=HCL2.out hsl;obtain ⟨bx,by'⟩:=HBD.out x y hcx;rw [hcx] at HK;simp only [unV] at HK;have S1:=Lib.hid (fun W=>rsG_any x (by omega) W);have S2:=Lib.hid (fun W=>rsG_any y (by omega) W);rw [hsxy] at S1;obtain ⟨sv,hsv⟩:∃ z,sumL y=z:=⟨_,rfl⟩;rw [hsv] at S1 S2;have e3:(x==y)=false:=beq_eq_false_iff_ne.2 hxy;clear hcx hsxy hsv HBD HCL2;go_wp2_with fail
     refine (HPa.out w10 HR10.out).mono ?_;rintro e w11 ⟨vq,rfl,o11,b11⟩;have B11:=bel_trans HB10.out b11;have D11:=HD10.out.below b11;have X11:=HX10.out.below b11;have R11:=HR10.out.below b11;have U11:=HU10.out.below b11;have T11:IsTxt w11 vq pth:=IsTxt.own o11 (by show pth.length≤_;have:=HQL.out;omega) (fun t ht=>by have:=HQ32.out t ht;omega);clear d0 d1 d2 d3 d4 d5 dl HD10 HX10 HB10 HU10 HR10 b11 o11;have d0:=D11.cell 0 _ rfl;have d1:=D11.cell 1 _ rfl;have d2:=D11.cell 2 _ rfl;have d3:=D11.cell 3 _ rfl;have d4:=D11.cell 4 _ rfl;have d5:=D11.cell 5 _ rfl;have c4:=X11.cell 4 _ rfl;obtain ⟨lb2,loff2,lcap2,hle3,_,_,_,_,LC2⟩:=R11.at (by omega);obtain ⟨⟨rfl,rfl⟩,-⟩:(lb=lb2∧loff=loff2)∧lc=lcap2:=by simpa using hle3
     have dl:=LC2.out I hIL;rw [HLI.out] at dl;clear hle3 LC2 D11 X11 R11;have HU11:=Lib.hid U11;have HT11:=Lib.hid T11;clear U11 T11;go_upto_region 23 with fail
     refine region_far (by kernel_rfl) (by kernel_rfl) ?_
     repeat (first | go_big_quiet_skip | (go_big_quiet_want;go_big_quiet_op;first | go_big_quiet_on | go_big_quiet_call (first | (go_at_call 28;exact calls_far (HK.out _ _ _ (HU11.out.below (farW_bel _ _)) (HT11.out.below (farW_bel _ _)))))))
     refine wpQuiet_nil ?_;rintro w' ⟨U,rfl⟩;have B12:=bel_trans B11 (farW_bel w11 U);generalize farW w11 U=w12 at B12 ⊢;clear d0 d1 d2 d3 d4 d5 c4 dl B11 HU11 HT11 HK;go_wp2_with fail
     refine (S1.out _).mono ?_;rintro e w13 ⟨rfl,b13⟩;have B13:=bel_trans B12 b13;go_wp2_with fail
     refine (S2.out _).mono ?_;rintro e w14 ⟨rfl,b14⟩;have B14:=bel_trans B13 b14;go_wp2_with fail
     go_ret
     exact ⟨rfl,B14⟩
   ·obtain rfl:a=nq:=by omega
    have i0:¬ (a:Int) < (a:Int):=by omega
    have hng:¬ goodL h lv:=HEND.out (fun p hp=>by
     obtain ⟨k,hk,rfl⟩:=List.getElem_of_mem hp;exact HT.out k hk (by have:=HNq.out;omega))
    have c0:=hX.cell 0 _ rfl;have c1:=hX.cell 1 _ rfl;have c2:=hX.cell 2 _ rfl;have c3:=hX.cell 3 _ rfl;have c4:=hX.cell 4 _ rfl;have c5:=hX.cell 5 _ rfl;have c6:=hX.cell 6 _ rfl;have c7:=hX.cell 7 _ rfl;have c8:=hX.cell 8 _ rfl;have c9:=hX.cell 9 _ rfl;have c10:=hX.cell 10 _ rfl;have c11:=hX.cell 11 _ rfl;have c12:=hX.cell 12 _ rfl;have HNG:=Lib.hid hng;have D:=HGo.out wP hB HWF.out.1 HWF.out.2;clear hng;go_wp2_with fail
    refine D.mono ?_;rintro e w11 ⟨bg,rfl,hbg,b11⟩;have B11:=bel_trans hB b11
    obtain rfl:bg=false:=by
     cases bg with
     | false=>rfl
     | true=>exact absurd (hbg.1 rfl) HNG.out
    clear D hbg b11;go_wp2_with fail
    go_ret
    exact ⟨rfl,B11⟩
 rotate_right
 ·simp only [Bool.not_true,Bool.not_false] at g1b g2b g5b
  go_wp2_with fail
  refine (CKr.out w4 Bc).mono ?_;rintro e w5 ⟨rfl,b5⟩;have B5:=bel_trans Bc b5;clear c0 c1 c2 c3 c4 c5 c6 c7 c8 c9 c10 c11 c12 Bc CKr HX HR4 b5;go_wp2_with fail
  go_ret
  exact ⟨rfl,B5⟩
 all_goals
  (try simp only [Bool.not_true] at g1b)
  (try simp only [Bool.not_true] at g2b)
  (try simp only [Bool.not_false] at g1b)
  (try simp only [Bool.not_false] at g2b)
  go_wp2_with fail
  go_ret
  exact ⟨rfl,Bc⟩
theorem sound15_all (C:P15C) (w:World) (hGl:G w) (h:List Ev) (vh:Value) (hT:IsEvs w vh h) (c:Ct) (vo vr vp:Value) (A:CtAt w c vo vr vp) :
 Calls Tryz.prog 4 #[vh,.agg (ctC c vo vr vp)] w fun e w'=>e=.returned (.bool true)∧Below w.heap.size w w':=by
 obtain ⟨tx,sq,pv,rt,ct,⟨lv,ac,o,⟨k0,k1,k2⟩,g⟩,q⟩:=c;obtain ⟨h1,h2,h3⟩:=A;simp only at h1 h2 h3;obtain ⟨oa,oc,rfl,_⟩:=h1.some_at;obtain ⟨ra,rc,rfl,_⟩:=h2.some_at;obtain ⟨pa,pc,rfl,_⟩:=h3.len;exact sound15_walk C w hGl h vh hT tx sq pv rt ct lv k0 k1 k2 ac oa oc o ra rc g pa pc q h1 h2 h3
end Go.Proofs.YthamoeekiglphaaGreatDoor
