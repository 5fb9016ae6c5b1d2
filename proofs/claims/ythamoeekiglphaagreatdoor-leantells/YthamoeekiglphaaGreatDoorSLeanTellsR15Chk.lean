/-
  What cartoucheref15.Check answers.
-/
import Derived.Test.YthamoeekiglphaaGreatDoorSLeanTellsL3a
import Derived.Test.YthamoeekiglphaaGreatDoorSLeanTellsR15Bad
import Derived.Test.YthamoeekiglphaaGreatDoorSLeanTellsR15Edge
namespace Go.Proofs.YthamoeekiglphaaGreatDoor
set_option maxRecDepth 100000
open Go.RowKit
set_option linter.unusedVariables false
attribute [local go_sem] ba_size farW_cell
set_option maxHeartbeats 8000000 in
theorem rcheck15 (tn:List UInt8) (sq:Int) (pv rt:List UInt8) (ct lv bk bi bj:Int) (ac:Bool) (oa:Option Addr) (oc:Nat) (o:List Int) (ra:Option Addr) (rc:Nat) (r:List Ed) (pa:Option Addr) (pc:Nat) (p:List Pf) (root:List UInt8) (w:World) (hO:IsInts w (.slice oa o.length oc) o) (hR:IsEds w (.slice ra r.length rc) r) (hP:IsPfs w (.slice pa p.length pc) p) :
 Calls Tryz.prog 14 #[.agg #[.string ⟨tn.toArray⟩,.int .i64 sq,.string ⟨pv.toArray⟩,.string ⟨rt.toArray⟩,.int .i64 ct,.int .i64 lv,.bool ac,.slice oa o.length oc,.int .i64 bk,.int .i64 bi,.int .i64 bj,.slice ra r.length rc,.slice pa p.length pc],.string ⟨root.toArray⟩] w fun e w'=>e=.returned (.int .i64 (leanL sumL (tn,sq,pv,rt,ct,(lv,ac,o,(bk,bi,bj),r),p) root))∧Below w.heap.size w w':=by
 have X0:=SBox.new w 30 #[.string ⟨tn.toArray⟩,.int .i64 sq,.string ⟨pv.toArray⟩,.string ⟨rt.toArray⟩,.int .i64 ct,.int .i64 lv,.bool ac,.slice oa o.length oc,.int .i64 bk,.int .i64 bi,.int .i64 bj,.slice ra r.length rc,.slice pa p.length pc]
 have B0:=(Below.refl w.heap.size w).alloc (Nat.le_refl _) (.cells #[.string ⟨tn.toArray⟩,.int .i64 sq,.string ⟨pv.toArray⟩,.string ⟨rt.toArray⟩,.int .i64 ct,.int .i64 lv,.bool ac,.slice oa o.length oc,.int .i64 bk,.int .i64 bi,.int .i64 bj,.slice ra r.length rc,.slice pa p.length pc] 30)
 have DP:=rproved15 tn sq pv rt ct lv bk bi bj ac oa oc o ra rc r pa pc p root _ (hO.below B0) (hR.below B0) (hP.below B0)
 have DB:=fun V (hV:Below w.heap.size w V)=>rbad15_any p _ V (hP.below hV) bk bi bj
 have DEd:=fun (e:Ed) V (hV:Below w.heap.size w V)=>redge15_any p _ V (hP.below hV) e.1 e.2.1 e.2.2.1 e.2.2.2.1 e.2.2.2.2
 obtain ⟨ra2,rc2,hre,_,_,r3,HRr⟩:=IsEds.reads hR
 obtain ⟨rfl,rfl⟩:ra=ra2∧rc=rc2:=by simpa using hre
 have HRk:Hid (∀ k (hk:k < r.length),r.getD k (0,0,0,0,0)=r[k]):=fun k hk=>by rw [List.getD_eq_getElem?_getD,List.getElem?_eq_getElem hk];rfl
 obtain ⟨no,hno⟩:∃ n,o.length=n:=⟨_,rfl⟩
 obtain ⟨nr,hnr⟩:∃ n,r.length=n:=⟨_,rfl⟩
 obtain ⟨np,hnp⟩:∃ n,p.length=n:=⟨_,rfl⟩
 have HL:Hid (leanL sumL (tn,sq,pv,rt,ct,(lv,ac,o,(bk,bi,bj),r),p) root=if provL sumL (tn,sq,pv,rt,ct,(lv,ac,o,(bk,bi,bj),r),p) root≠0 then provL sumL (tn,sq,pv,rt,ct,(lv,ac,o,(bk,bi,bj),r),p) root else if ac=true then 9 else if o≠[]∨shB (tn,sq,pv,rt,ct,(lv,ac,o,(bk,bi,bj),r),p)=false then 14 else 0):=leanL_is sumL _ root
 have HSh:Hid (shB (tn,sq,pv,rt,ct,(lv,ac,o,(bk,bi,bj),r),p)=(if bk≠0 then decide (r=[])&&badB p (bk,bi,bj) else ringB p lv r)):=rfl
 have ho0:o=[]↔no=0:=by rw [← hno];exact List.length_eq_zero_iff.symm
 have hr0:r=[]↔nr=0:=by rw [← hnr];exact List.length_eq_zero_iff.symm
 have HNo:=Lib.hid (ringB_no p lv r)
 have HYs:=Lib.hid (ringB_yes p lv r)
 rw [HL.out]
 obtain ⟨pr,hpr⟩:∃ z,provL sumL (tn,sq,pv,rt,ct,(lv,ac,o,(bk,bi,bj),r),p) root=z:=⟨_,rfl⟩
 obtain ⟨sh,hsh⟩:∃ z,shB (tn,sq,pv,rt,ct,(lv,ac,o,(bk,bi,bj),r),p)=z:=⟨_,rfl⟩
 rw [hpr] at DP
 rw [hpr,hsh]
 rw [hsh] at HSh
 rw [hno,hnr,hnp] at X0 B0
 simp only [hno,hnr,hnp] at DP DB DEd ⊢
 rw [hnr] at r3
 have HM:=Lib.hid hnr
 have HB:=Lib.hid B0
 have HX:=Lib.hid X0
 have HO:=Lib.hid ho0
 have HR0:=Lib.hid hr0
 have HDB:=Lib.hid DB
 have HDE:=Lib.hid DEd
 have c0:=X0.cell 0 _ rfl
 have c1:=X0.cell 1 _ rfl
 have c2:=X0.cell 2 _ rfl
 have c3:=X0.cell 3 _ rfl
 have c4:=X0.cell 4 _ rfl
 have c5:=X0.cell 5 _ rfl
 have c6:=X0.cell 6 _ rfl
 have c7:=X0.cell 7 _ rfl
 have c8:=X0.cell 8 _ rfl
 have c9:=X0.cell 9 _ rfl
 have c10:=X0.cell 10 _ rfl
 have c11:=X0.cell 11 _ rfl
 have c12:=X0.cell 12 _ rfl
 clear hno hnr hnp hO hR hP B0 X0 HL hpr hsh ho0 hr0 hre DB DEd
 by_cases h0:pr=0
 ·rw [if_neg (fun h=>h h0)]
  subst h0
  cases ac with
  | true =>
    rw [if_pos rfl]
    go_enter Tryz.func14,Tryz.ntmps14
    go_wp2_with fail
    refine DP.mono ?_
    rintro e w1 ⟨rfl,b1⟩
    have B1:=bel_trans HB.out b1
    have X1:=HX.out.below b1
    clear c0 c1 c2 c3 c4 c5 c6 c7 c8 c9 c10 c11 c12 b1 DP
    have c6:=X1.cell 6 _ rfl
    clear X1
    go_wp2_with fail
    go_ret
    exact ⟨rfl,B1⟩
  | false =>
    rw [if_neg (by decide)]
    by_cases hn0:no=0
    ·have ho:o=[]:=HO.out.2 hn0
     subst hn0
     obtain ⟨rv,hrv⟩:∃ z,(if o≠[]∨sh=false then (14:Int) else 0)=z:=⟨_,rfl⟩
     have HV1:Hid (sh=false→rv=14):=fun h=>by rw [← hrv];exact if_pos (.inr h)
     have HV0:Hid (sh=true→rv=0):=fun h=>by rw [← hrv];exact if_neg (fun h2=>h2.elim (fun h3=>h3 ho) (fun h3=>by rw [h] at h3;cases h3))
     rw [hrv]
     clear ho hrv HO
     go_enter Tryz.func14,Tryz.ntmps14
     go_wp2_with fail
     refine DP.mono ?_
     rintro e w1 ⟨rfl,b1⟩
     have B1:=bel_trans HB.out b1
     have X1:=HX.out.below b1
     clear c0 c1 c2 c3 c4 c5 c6 c7 c8 c9 c10 c11 c12 b1 DP
     have c0:=X1.cell 0 _ rfl
     have c1:=X1.cell 1 _ rfl
     have c2:=X1.cell 2 _ rfl
     have c3:=X1.cell 3 _ rfl
     have c4:=X1.cell 4 _ rfl
     have c5:=X1.cell 5 _ rfl
     have c6:=X1.cell 6 _ rfl
     have c7:=X1.cell 7 _ rfl
     have c8:=X1.cell 8 _ rfl
     have c9:=X1.cell 9 _ rfl
     have c10:=X1.cell 10 _ rfl
     have c11:=X1.cell 11 _ rfl
     have c12:=X1.cell 12 _ rfl
     by_cases hbk:bk=0
     ·have n1:(bk != 0)=false:=by rw [hbk];rfl
      have n2:(bk==0)=true:=by rw [hbk];rfl
      have HS1:Hid (sh=ringB p lv r):=HSh.out.trans (if_neg (fun h=>h hbk))
      clear hbk HSh HDB
      by_cases hr:nr=0
      ·have hr2:r=[]:=HR0.out.2 hr
       have HF:Hid (rv=14):=HV1.out (by rw [HS1.out,hr2];rfl)
       subst hr
       clear X1 hr2
       go_wp2_with fail
       go_ret
       exact ⟨by rw [HF.out];rfl,B1⟩
      ·have s1:((nr:Int)==0)=false:=beq_eq_false_iff_ne.2 (by omega)
       have s2:(nr==0)=false:=beq_eq_false_iff_ne.2 hr
       have h01:0 < r.length:=by have:=HM.out;omega
       obtain ⟨rb,roff,rfl,HQ⟩:=HRr.out h01
       have HX1:=Lib.hid X1
       clear X1 HR0
       go_wp2_with fail
       go_loopw [8] (fun iv wr=>∃ q:Nat,q≤nr∧iv=.int .i64 q∧Hid (∀ j,j < q→rgK p lv r j=true)∧Below w.heap.size w wr∧Hid (SBox wr w.heap.size 30 #[.string ⟨tn.toArray⟩,.int .i64 sq,.string ⟨pv.toArray⟩,.string ⟨rt.toArray⟩,.int .i64 ct,.int .i64 lv,.bool false,.slice oa 0 oc,.int .i64 bk,.int .i64 bi,.int .i64 bj,.slice (some ⟨rb,roff,none⟩) nr rc,.slice pa np pc])) (fun iv _=>nr - (RowKit.intOf iv).toNat)
       case atStart=>exact ⟨0,Nat.zero_le _,rfl,(fun j hj=>absurd hj (by omega)),B1,HX1⟩
       case round =>
        obtain ⟨q,hq,rfl,HK0,hB,HXr⟩:=hrel
        by_cases hlq:q < nr
        ·have hq1:q < r.length:=by have:=HM.out;omega
         have jq:(q:Int) < (nr:Int):=by omega
         have j00:(0:Int) < (nr:Int):=by omega
         have jw:IntKind.i64.wrap ((q:Int)+1)=(q:Int)+1:=by rw [IntKind.wrap_i64];omega
         have HX2:=Lib.hid (HQ.out q hq1)
         have HZ0:=Lib.hid (HQ.out 0 h01)
         obtain ⟨s,hs,hs1,hsc⟩:∃ s:Nat,s < nr∧(q+1) % r.length=s∧((q+1 < nr∧s=q+1)∨(¬ q+1 < nr∧s=0)):=by
          by_cases dn:q+1 < nr
          ·exact ⟨q+1,dn,by rw [HM.out];exact Nat.mod_eq_of_lt dn,.inl ⟨dn,rfl⟩⟩
          ·exact ⟨0,by omega,by rw [HM.out,show q+1=nr by omega,Nat.mod_self],.inr ⟨dn,rfl⟩⟩
         have hs2:s < r.length:=by have:=HM.out;omega
         have HY2:=Lib.hid (HQ.out s hs2)
         have HKv:Hid (rgK p lv r q=(edgeB p r[q]&&decide (r[q].2.2.1=r[s].2.1)&&!(decide (lv=2)&&decide (r[q].1=3)&&decide (r[s].1=3)))):=by
          show _=_
          unfold rgK nxE
          rw [HRk.out q hq1,hs1,HRk.out s hs2]
         have HEd0:=fun V hV=>HDE.out r[q] V hV
         have hys:s=0→r[s]=r[0]:=fun h=>by subst h;rfl
         obtain ⟨⟨x0,x1,x2,x3,x4⟩,hx⟩:∃ x,r[q]=x:=⟨_,rfl⟩
         obtain ⟨⟨y0,y1,y2,y3,y4⟩,hy⟩:∃ x,r[s]=x:=⟨_,rfl⟩
         obtain ⟨⟨z0,z1,z2,z3,z4⟩,hz⟩:∃ x,r[0]=x:=⟨_,rfl⟩
         rw [hx] at HX2 HKv HEd0
         rw [hy] at HY2 HKv hys
         rw [hz] at HZ0 hys
         simp only at HEd0
         obtain ⟨ok,hok⟩:∃ b,edgeB p (x0,x1,x2,x3,x4)=b:=⟨_,rfl⟩
         rw [hok] at HEd0 HKv
         have HEd:=Lib.hid HEd0
         obtain ⟨t1,g1⟩:∃ b,(x2==y1)=b:=⟨_,rfl⟩
         obtain ⟨t2,g2⟩:∃ b,(lv==2)=b:=⟨_,rfl⟩
         obtain ⟨t3,g3⟩:∃ b,(x0==3)=b:=⟨_,rfl⟩
         obtain ⟨t4,g4⟩:∃ b,(y0==3)=b:=⟨_,rfl⟩
         have n1':(x2 != y1)=!t1:=by rw [← g1];rfl
         have HK:Hid (rgK p lv r q=(ok&&t1&&!(t2&&t3&&t4))):=by show _=_;rw [HKv.out,← g1,← g2,← g3,← g4];rfl
         have HN1:Hid (rgK p lv r q=false→rv=14):=fun h=>HV1.out (by rw [HS1.out];exact HNo.out q hq1 h)
         have HB2:Hid (rgK p lv r q=true→∀ j,j < q+1→rgK p lv r j=true):=fun hh j hj=>by
          rcases Nat.lt_or_ge j q with hj2 | hj2
          ·exact HK0.out j hj2
          ·obtain rfl:j=q:=by omega
           exact hh
         obtain ⟨u0,u1,u2,u3,u4⟩:=HZ0.out wr hB
         simp only [Nat.zero_mul,Nat.add_zero] at u0 u1 u2 u3 u4
         have Bz0:=hB.alloc hB.size (.cells #[.int .i64 z0,.int .i64 z1,.int .i64 z2,.int .i64 z3,.int .i64 z4] 32)
         obtain ⟨v0,v1,v2,v3,v4⟩:=HY2.out _ Bz0
         simp only at v0 v1 v2 v3 v4
         have Bz:=hB.alloc hB.size (.cells #[.int .i64 y0,.int .i64 y1,.int .i64 y2,.int .i64 y3,.int .i64 y4] 32)
         have Yb:=SBox.new wr 32 #[.int .i64 y0,.int .i64 y1,.int .i64 y2,.int .i64 y3,.int .i64 y4]
         have Xz:=HXr.out.alloc (.cells #[.int .i64 y0,.int .i64 y1,.int .i64 y2,.int .i64 y3,.int .i64 y4] 32)
         have HYb:=Lib.hid Yb
         have HXz:=Lib.hid Xz
         have ks:(s:Int) < (nr:Int):=by omega
         clear hx hy hz hok HEd0 HKv hs1 HRk Yb Xz HXr
         rcases hsc with ⟨dn,rfl⟩ | ⟨dn,hs0⟩
         rotate_right
         ·have e9:=hys hs0
          simp only [Prod.mk.injEq] at e9
          obtain ⟨rfl,rfl,rfl,rfl,rfl⟩:=e9
          have d1:decide ((q:Int)+1 < (nr:Int))=false:=decide_eq_false (by omega)
          have d2:decide (q+1 < nr)=false:=decide_eq_false dn
          clear hys v0 v1 v2 v3 v4 hs0 dn
          go_upto_region 22 with fail
          obtain ⟨WA,hWA⟩:∃ W,wr.alloc (.cells #[.int .i64 y0,.int .i64 y1,.int .i64 y2,.int .i64 y3,.int .i64 y4] 32)=W:=⟨_,rfl⟩
          rw [hWA] at Bz HYb HXz ⊢
          clear hWA
          obtain ⟨a0,a1,a2,a3,a4⟩:=HX2.out WA Bz
          simp only at a0 a1 a2 a3 a4
          have c12:=HXz.out.cell 12 _ rfl
          refine region_far (by kernel_rfl) (by kernel_rfl) ?_
          repeat (first | go_big_quiet_skip | (go_big_quiet_want;go_big_quiet_op;first | go_big_quiet_on | go_big_quiet_call (first | (go_at_call 18;exact calls_far (HEd.out _ (bel_trans Bz (farW_bel _ _)))))))
          refine wpQuiet_nil ?_
          rintro w' ⟨U,rfl⟩
          have Be:=bel_trans Bz (farW_bel WA U)
          have Yf:=HYb.out.below (farW_bel WA U)
          have Xf:=HXz.out.below (farW_bel WA U)
          generalize farW WA U=wE at Be Yf Xf ⊢
          clear a0 a1 a2 a3 a4 c12 HYb HXz Bz
          obtain ⟨a0,a1,a2,a3,a4⟩:=HX2.out wE Be
          simp only at a0 a1 a2 a3 a4
          have f0:=Yf.cell 0 _ rfl
          have f1:=Yf.cell 1 _ rfl
          have c5:=Xf.cell 5 _ rfl
          have HXf:=Lib.hid Xf
          clear Yf Xf
          have H:ok=false∨(ok=true∧t1=false)∨(ok=true∧t1=true∧t2=true∧t3=true∧t4=true)∨(ok=true∧t1=true∧t2=false)∨(ok=true∧t1=true∧t2=true∧t3=false)∨(ok=true∧t1=true∧t2=true∧t3=true∧t4=false):=by cases ok<;>cases t1<;>cases t2<;>cases t3<;>cases t4<;>simp
          rcases H with rfl | ⟨rfl,rfl⟩ | ⟨rfl,rfl,rfl,rfl,rfl⟩ | ⟨rfl,rfl,rfl⟩ | ⟨rfl,rfl,rfl,rfl⟩ | ⟨rfl,rfl,rfl,rfl,rfl⟩
          all_goals
           (try simp only [Bool.not_true] at n1')
           (try simp only [Bool.not_false] at n1')
           go_upto_region 23 with fail
           refine region_far (by kernel_rfl) (by kernel_rfl) ?_
           repeat (first | go_big_quiet_skip | (go_big_quiet_want;go_big_quiet_op;go_big_quiet_on))
           refine wpQuiet_nil ?_
           rintro w' ⟨U2,rfl⟩
           have Bg:=bel_trans Be (farW_bel wE U2)
           have HXg:=Lib.hid (HXf.out.below (farW_bel wE U2))
           generalize farW wE U2=wG at Bg HXg ⊢
           first
           | (have HT:Hid (rgK p lv r q=false):=HK.out.trans rfl
              have HF:Hid (rv=14):=HN1.out HT.out
              go_wp2_with fail
              go_ret
              exact ⟨by rw [HF.out];rfl,Bg⟩)
           | (have HT:Hid (rgK p lv r q=true):=HK.out.trans rfl
              have HF:=Lib.hid (HB2.out HT.out)
              clear a0 a1 a2 a3 a4 f0 f1 c5 HXf
              go_wp2_with fail
              go_roundw
              case rel=>exact ⟨q+1,by omega,by first | go_num | simp,HF,Bg,HXg⟩
              case measure=>simp [RowKit.intOf];omega)
         ·have d1:decide ((q:Int)+1 < (nr:Int))=true:=decide_eq_true (by omega)
          have d2:decide (q+1 < nr)=true:=decide_eq_true dn
          have ksq:(q:Int)+1 < (nr:Int):=by omega
          clear hys
          go_upto_region 22 with fail
          obtain ⟨WA,hWA⟩:∃ W,wr.alloc (.cells #[.int .i64 y0,.int .i64 y1,.int .i64 y2,.int .i64 y3,.int .i64 y4] 32)=W:=⟨_,rfl⟩
          rw [hWA] at Bz HYb HXz ⊢
          clear hWA
          obtain ⟨a0,a1,a2,a3,a4⟩:=HX2.out WA Bz
          simp only at a0 a1 a2 a3 a4
          have c12:=HXz.out.cell 12 _ rfl
          refine region_far (by kernel_rfl) (by kernel_rfl) ?_
          repeat (first | go_big_quiet_skip | (go_big_quiet_want;go_big_quiet_op;first | go_big_quiet_on | go_big_quiet_call (first | (go_at_call 18;exact calls_far (HEd.out _ (bel_trans Bz (farW_bel _ _)))))))
          refine wpQuiet_nil ?_
          rintro w' ⟨U,rfl⟩
          have Be:=bel_trans Bz (farW_bel WA U)
          have Yf:=HYb.out.below (farW_bel WA U)
          have Xf:=HXz.out.below (farW_bel WA U)
          generalize farW WA U=wE at Be Yf Xf ⊢
          clear a0 a1 a2 a3 a4 c12 HYb HXz Bz
          obtain ⟨a0,a1,a2,a3,a4⟩:=HX2.out wE Be
          simp only at a0 a1 a2 a3 a4
          have f0:=Yf.cell 0 _ rfl
          have f1:=Yf.cell 1 _ rfl
          have c5:=Xf.cell 5 _ rfl
          have HXf:=Lib.hid Xf
          clear Yf Xf
          have H:ok=false∨(ok=true∧t1=false)∨(ok=true∧t1=true∧t2=true∧t3=true∧t4=true)∨(ok=true∧t1=true∧t2=false)∨(ok=true∧t1=true∧t2=true∧t3=false)∨(ok=true∧t1=true∧t2=true∧t3=true∧t4=false):=by cases ok<;>cases t1<;>cases t2<;>cases t3<;>cases t4<;>simp
          rcases H with rfl | ⟨rfl,rfl⟩ | ⟨rfl,rfl,rfl,rfl,rfl⟩ | ⟨rfl,rfl,rfl⟩ | ⟨rfl,rfl,rfl,rfl⟩ | ⟨rfl,rfl,rfl,rfl,rfl⟩
          all_goals
           (try simp only [Bool.not_true] at n1')
           (try simp only [Bool.not_false] at n1')
           go_upto_region 23 with fail
           refine region_far (by kernel_rfl) (by kernel_rfl) ?_
           repeat (first | go_big_quiet_skip | (go_big_quiet_want;go_big_quiet_op;go_big_quiet_on))
           refine wpQuiet_nil ?_
           rintro w' ⟨U2,rfl⟩
           have Bg:=bel_trans Be (farW_bel wE U2)
           have HXg:=Lib.hid (HXf.out.below (farW_bel wE U2))
           generalize farW wE U2=wG at Bg HXg ⊢
           first
           | (have HT:Hid (rgK p lv r q=false):=HK.out.trans rfl
              have HF:Hid (rv=14):=HN1.out HT.out
              go_wp2_with fail
              go_ret
              exact ⟨by rw [HF.out];rfl,Bg⟩)
           | (have HT:Hid (rgK p lv r q=true):=HK.out.trans rfl
              have HF:=Lib.hid (HB2.out HT.out)
              clear a0 a1 a2 a3 a4 f0 f1 c5 HXf
              go_wp2_with fail
              go_roundw
              case rel=>exact ⟨q+1,by omega,by first | go_num | simp,HF,Bg,HXg⟩
              case measure=>simp [RowKit.intOf];omega)
        ·obtain rfl:q=nr:=by omega
         have jq:¬ (q:Int) < (q:Int):=by omega
         have HF:Hid (rv=0):=HV0.out (by rw [HS1.out,HYs.out (by rw [HM.out];exact HK0.out),HM.out];exact decide_eq_true (by omega))
         go_wp2_with fail
         go_ret
         exact ⟨by rw [HF.out];rfl,hB⟩
     ·have n1:(bk != 0)=true:=bne_iff_ne.2 hbk
      have n2:(bk==0)=false:=beq_eq_false_iff_ne.2 hbk
      have HS1:Hid (sh=(decide (r=[])&&badB p (bk,bi,bj))):=HSh.out.trans (if_pos hbk)
      obtain ⟨sb,hsb⟩:∃ b,badB p (bk,bi,bj)=b:=⟨_,rfl⟩
      have D2:=HDB.out _ B1
      rw [hsb] at D2 HS1
      have HX1:=Lib.hid X1
      clear hbk HSh hsb HDB X1
      go_upto_region 9 with fail
      go_wp2_with fail
      refine D2.mono ?_
      rintro e w2 ⟨rfl,b2⟩
      have B2:=bel_trans B1 b2
      have X2:=HX1.out.below b2
      clear c0 c1 c2 c3 c4 c5 c6 c7 c8 c9 c10 c11 c12 D2 b2 HX1 B1
      have c11:=X2.cell 11 _ rfl
      clear X2
      by_cases hr:nr=0
      ·have hr2:r=[]:=HR0.out.2 hr
       have HS2:Hid (sh=sb):=by show _=_;rw [HS1.out,hr2];rfl
       subst hr
       cases sb with
       | true =>
         have HF:Hid (rv=0):=HV0.out HS2.out
         go_wp2_with fail
         go_ret
         exact ⟨by rw [HF.out];rfl,B2⟩
       | false =>
         have HF:Hid (rv=14):=HV1.out HS2.out
         go_wp2_with fail
         go_ret
         exact ⟨by rw [HF.out];rfl,B2⟩
      ·have HF:Hid (rv=14):=HV1.out (by rw [HS1.out,decide_eq_false (fun h=>hr (HR0.out.1 h))];rfl)
       have s1:decide ((nr:Int) > 0)=true:=decide_eq_true (by omega)
       have s2:decide (0 < nr)=true:=decide_eq_true (by omega)
       go_wp2_with fail
       go_ret
       exact ⟨by rw [HF.out];rfl,B2⟩
    ·have ho:o≠[]:=fun h=>hn0 (HO.out.1 h)
     have e3:decide ((no:Int) > 0)=true:=decide_eq_true (by omega)
     have e4:decide (0 < no)=true:=decide_eq_true (by omega)
     rw [if_pos (.inl ho)]
     clear ho hn0
     go_enter Tryz.func14,Tryz.ntmps14
     go_wp2_with fail
     refine DP.mono ?_
     rintro e w1 ⟨rfl,b1⟩
     have B1:=bel_trans HB.out b1
     have X1:=HX.out.below b1
     clear c0 c1 c2 c3 c4 c5 c6 c7 c8 c9 c10 c11 c12 b1 DP
     have c0:=X1.cell 0 _ rfl
     have c1:=X1.cell 1 _ rfl
     have c2:=X1.cell 2 _ rfl
     have c3:=X1.cell 3 _ rfl
     have c4:=X1.cell 4 _ rfl
     have c5:=X1.cell 5 _ rfl
     have c6:=X1.cell 6 _ rfl
     have c7:=X1.cell 7 _ rfl
     have c8:=X1.cell 8 _ rfl
     have c9:=X1.cell 9 _ rfl
     have c10:=X1.cell 10 _ rfl
     have c11:=X1.cell 11 _ rfl
     have c12:=X1.cell 12 _ rfl
     clear X1
     go_wp2_with fail
     go_ret
     exact ⟨rfl,B1⟩
 ·have e1:(pr==0)=false:=beq_eq_false_iff_ne.2 h0
  have e2:(pr != 0)=true:=bne_iff_ne.2 h0
  rw [if_pos h0]
  clear h0
  go_enter Tryz.func14,Tryz.ntmps14
  go_wp2_with fail
  refine DP.mono ?_
  rintro e w1 ⟨rfl,b1⟩
  go_wp2_with fail
  go_ret
  exact ⟨rfl,bel_trans HB.out b1⟩
end Go.Proofs.YthamoeekiglphaaGreatDoor
