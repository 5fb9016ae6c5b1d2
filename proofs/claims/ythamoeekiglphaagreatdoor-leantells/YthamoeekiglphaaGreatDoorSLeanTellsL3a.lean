/-
  What cartoucheref15.Proved answers.
-/
import Derived.Test.YthamoeekiglphaaGreatDoorCP15Chk
import Derived.Test.YthamoeekiglphaaGreatDoorSLeanTellsL1a
namespace Go.Proofs.YthamoeekiglphaaGreatDoor
set_option maxRecDepth 100000
open Go.RowKit
set_option linter.unusedVariables false
attribute [local go_sem] ba_size farW_cell
set_option maxHeartbeats 4000000 in
theorem rproved15 (tn:List UInt8) (sq:Int) (pv rt:List UInt8) (ct lv bk bi bj:Int) (ac:Bool) (oa:Option Addr) (oc:Nat) (o:List Int) (ra:Option Addr) (rc:Nat) (r:List Ed) (pa:Option Addr) (pc:Nat) (p:List Pf) (root:List UInt8) (w:World) (hO:IsInts w (.slice oa o.length oc) o) (hR:IsEds w (.slice ra r.length rc) r) (hP:IsPfs w (.slice pa p.length pc) p) :
 Calls Tryz.prog 12 #[.agg #[.string ⟨tn.toArray⟩,.int .i64 sq,.string ⟨pv.toArray⟩,.string ⟨rt.toArray⟩,.int .i64 ct,.int .i64 lv,.bool ac,.slice oa o.length oc,.int .i64 bk,.int .i64 bi,.int .i64 bj,.slice ra r.length rc,.slice pa p.length pc],.string ⟨root.toArray⟩] w fun e w'=>e=.returned (.int .i64 (provL sumL (tn,sq,pv,rt,ct,(lv,ac,o,(bk,bi,bj),r),p) root))∧Below w.heap.size w w':=by
 have X0:=SBox.new w 30 #[.string ⟨tn.toArray⟩,.int .i64 sq,.string ⟨pv.toArray⟩,.string ⟨rt.toArray⟩,.int .i64 ct,.int .i64 lv,.bool ac,.slice oa o.length oc,.int .i64 bk,.int .i64 bi,.int .i64 bj,.slice ra r.length rc,.slice pa p.length pc]
 have B0:=(Below.refl w.heap.size w).alloc (Nat.le_refl _) (.cells #[.string ⟨tn.toArray⟩,.int .i64 sq,.string ⟨pv.toArray⟩,.string ⟨rt.toArray⟩,.int .i64 ct,.int .i64 lv,.bool ac,.slice oa o.length oc,.int .i64 bk,.int .i64 bi,.int .i64 bj,.slice ra r.length rc,.slice pa p.length pc] 30)
 have DM:=rmay14_any (tn,sq,pv,rt,ct,(lv,ac,o,(bk,bi,bj),r),p) _ _ _ _ ⟨hO.below B0,hR.below B0,hP.below B0⟩
 have HPr0:∀ n,p.length=n→Hid (provL sumL (tn,sq,pv,rt,ct,(lv,ac,o,(bk,bi,bj),r),p) root=if ¬ mayC (tn,sq,pv,rt,ct,(lv,ac,o,(bk,bi,bj),r),p) then 1 else if rt≠root then 13 else if pfU15 sumL root ct p n=true then 0 else 14):=fun n h=>by subst h;rfl
 have HMy:Hid (mayC (tn,sq,pv,rt,ct,(lv,ac,o,(bk,bi,bj),r),p)→∀ q∈p,pfM q):=fun h=>h.2.2.2
 have CK:=Lib.hid (fun (i:Int) (s:List UInt8) (hs:s.length≤1125899906842500) (q:List (List UInt8)) (u:Value) (V:World) (hV:Below w.heap.size w V) (hT:IsTxt V u q)=>rcheck_any root ct i s hs q u V hT)
 have HLen:=hP.len
 obtain ⟨pa',pc',hpe,k1,k2,k3⟩:=HLen
 obtain ⟨rfl,rfl⟩:pa=pa'∧pc=pc':=by simpa using hpe
 obtain ⟨pa2,pc2,hpe2,_,_,_,HC⟩:=hP.reads
 obtain ⟨rfl,rfl⟩:pa=pa2∧pc=pc2:=by simpa using hpe2
 obtain ⟨no,hno⟩:∃ n,o.length=n:=⟨_,rfl⟩
 obtain ⟨nr,hnr⟩:∃ n,r.length=n:=⟨_,rfl⟩
 obtain ⟨np,hnp⟩:∃ n,p.length=n:=⟨_,rfl⟩
 have HN:=Lib.hid hnp
 have HPr:=HPr0 np hnp
 clear HPr0
 rw [hnp] at k1 k3
 rw [hno,hnr,hnp] at X0 B0
 simp only [hno,hnr,hnp] at DM ⊢
 rw [HPr.out]
 have HB:=Lib.hid B0
 have HX:=Lib.hid X0
 have c0:=X0.cell 0 _ rfl
 have c1:=X0.cell 1 _ rfl
 have c2:=X0.cell 2 _ rfl
 have c3:=X0.cell 3 _ rfl
 have c4:=X0.cell 4 _ rfl
 have c5:=X0.cell 5 _ rfl
 have c6:=X0.cell 6 _ rfl
 have c7:=X0.cell 7 _ rfl
 have c8:=X0.cell 8 _ rfl
 have c9:=X0.cell 9 _ rfl
 have c10:=X0.cell 10 _ rfl
 have c11:=X0.cell 11 _ rfl
 have c12:=X0.cell 12 _ rfl
 clear hpe hpe2 hno hnr hnp hO hR hP B0 X0 HPr
 by_cases hm:mayC (tn,sq,pv,rt,ct,(lv,ac,o,(bk,bi,bj),r),p)
 ·rw [decide_eq_true hm] at DM
  rw [if_neg (fun h=>h hm)]
  have HM2:=Lib.hid (HMy.out hm)
  clear hm HMy
  by_cases hrt:rt=root
  ·have e1:(rt==root)=true:=by rw [hrt];exact beq_self_eq_true _
   have e1n:(rt != root)=false:=by rw [hrt];exact bne_self_eq_false _
   rw [if_neg (fun h=>h hrt)]
   clear hrt
   obtain ⟨rv,hrv⟩:∃ z,(if pfU15 sumL root ct p np=true then (0:Int) else 14)=z:=⟨_,rfl⟩
   have HN1:Hid (∀ k,k < np→pfK15 sumL root ct p k=false→rv=14):=fun k hk h=>by rw [← hrv,pfU_no sumL root ct p np k hk h];rfl
   have HY1:Hid ((∀ k,k < np→pfK15 sumL root ct p k=true)→rv=0):=fun h=>by rw [← hrv,pfU_yes sumL root ct p np h];rfl
   rw [hrv]
   clear hrv
   go_enter Tryz.func12,Tryz.ntmps12
   go_wp2_with fail
   refine DM.mono ?_
   rintro e w1 ⟨rfl,b1⟩
   have B1:=bel_trans HB.out b1
   have X1:=HX.out.below b1
   clear c0 c1 c2 c3 c4 c5 c6 c7 c8 c9 c10 c11 c12 b1 DM
   have c3:=X1.cell 3 _ rfl
   have c12:=X1.cell 12 _ rfl
   have HX1:=Lib.hid X1
   clear X1
   go_wp2_with fail
   go_loopw [6] (fun i wr=>∃ k:Nat,k≤np∧i=.int .i64 k∧Hid (∀ j,j < k→pfK15 sumL root ct p j=true)∧Below w.heap.size w wr∧Hid (SBox wr w.heap.size 30 #[.string ⟨tn.toArray⟩,.int .i64 sq,.string ⟨pv.toArray⟩,.string ⟨rt.toArray⟩,.int .i64 ct,.int .i64 lv,.bool ac,.slice oa no oc,.int .i64 bk,.int .i64 bi,.int .i64 bj,.slice ra nr rc,.slice pa np pc])) (fun i _=>np - (RowKit.intOf i).toNat)
   case atStart=>exact ⟨0,Nat.zero_le _,rfl,(fun j hj=>absurd hj (by omega)),B1,HX1⟩
   case round =>
    obtain ⟨k,hk,rfl,HF,hB,HXr⟩:=hrel
    by_cases hlt:k < np
    ·have j0:(k:Int) < (np:Int):=by omega
     have hkl:k < p.length:=by have:=HN.out;omega
     obtain ⟨bb,off,rfl,u,hu,HQ⟩:=HC.out k hkl
     obtain ⟨v0,v1,v2,v3,v4,v5⟩:=HQ wr hB
     have l12:=HXr.out.cell 12 _ rfl
     obtain ⟨ua,uc,rfl,hun9⟩:=hu.some_at
     have hpm:=HM2.out p[k] (List.getElem_mem hkl)
     obtain ⟨kp,hkp⟩:∃ z,k - 1=z:=⟨_,rfl⟩
     have hkpl:kp < p.length:=by omega
     have HK:Hid (pfK15 sumL root ct p k=(!(decide (k > 0)&&decide (p[kp].1 ≥ p[k].1))&&decide (checkL sumL root ct p[k].1 (bytE p[k].2.1) p[k].2.2=0))):=by
      show _=_
      unfold pfK15
      rw [pf15_at p k hkl,show k - 1=kp from hkp,pf15_at p kp hkpl]
      congr 1
      by_cases hk0:k=0
      ·rw [decide_eq_true hk0,decide_eq_false (show ¬ k > 0 by omega)];rfl
      ·rw [decide_eq_false hk0,decide_eq_true (show k > 0 by omega),Bool.false_or,Bool.true_and,← decide_not]
       exact decide_eq_decide.2 (by omega)
     obtain ⟨bb2,off2,hbe,u2,hu2,HQ2⟩:=HC.out kp hkpl
     obtain ⟨rfl,rfl⟩:bb=bb2∧off=off2:=by injection hbe with h;injection h with h1 h2;exact ⟨h1,h2⟩
     have HPv:Hid (∀ V,Below w.heap.size w V→V.cell? ⟨bb,off+kp*6,none⟩=some (.int .i64 p[kp].1)):=fun V hV=>(HQ2 V hV).1
     obtain ⟨pp,hpp⟩:∃ z,p[kp].1=z:=⟨_,rfl⟩
     rw [hpp] at HPv HK
     have jsub:0 < k→IntKind.i64.wrap ((k:Int) - 1)=(kp:Int):=fun h0=>by rw [IntKind.wrap_i64];omega
     have jkp:(kp:Int) < (np:Int):=by have:=HN.out;omega
     have jw:IntKind.i64.wrap ((k:Int)+1)=(k:Int)+1:=by rw [IntKind.wrap_i64];omega
     clear hpp hu2 HQ2 hbe
     have hbl:=(bytE_len p[k].2.1 hpm.1.2).1
     have DE:=fun W=>rbytes6_any p[k].2.1.1 p[k].2.1.2.1 p[k].2.1.2.2.1 p[k].2.1.2.2.2 W
     rw [show (p[k].2.1.1,p[k].2.1.2.1,p[k].2.1.2.2.1,p[k].2.1.2.2.2)=p[k].2.1 from rfl,bytesE_ok _ hpm.1.2] at DE
     obtain ⟨⟨y0,⟨x0,x1,x2,x3⟩,q⟩,hx⟩:∃ x,p[k]=x:=⟨_,rfl⟩
     rw [hx] at v0 v1 v2 v3 v4 v5 hu HK hbl
     simp only [hx] at DE
     simp only at v0 v1 v2 v3 v4 v5 hu HK hbl DE
     obtain ⟨un,hunq⟩:∃ n,q.length=n:=⟨_,rfl⟩
     obtain ⟨bs,hbs⟩:∃ z,bytE (x0,x1,x2,x3)=z:=⟨_,rfl⟩
     rw [hbs] at DE hbl HK
     rw [hunq] at v5 hu
     have CKu:=Lib.hid (fun V (hV:Below w.heap.size w V)=>CK.out y0 bs (by omega) q _ V hV (hu.below hV))
     obtain ⟨ck,hck⟩:∃ z,checkL sumL root ct y0 bs q=z:=⟨_,rfl⟩
     rw [hck] at CKu HK
     obtain ⟨le,hle⟩:∃ b,(decide (k > 0)&&decide (pp ≥ y0))=b:=⟨_,rfl⟩
     have HLE:=Lib.hid hle
     have HDE:=Lib.hid (DE)
     have HKK:Hid (pfK15 sumL root ct p k=(!le&&decide (ck=0))):=by show _=_;rw [← hle];exact HK.out
     have HB2:Hid (pfK15 sumL root ct p k=true→∀ j,j < k+1→pfK15 sumL root ct p j=true):=fun hh j hj=>by
      rcases Nat.lt_or_ge j k with hj2 | hj2
      ·exact HF.out j hj2
      ·obtain rfl:j=k:=by omega
       exact hh
     have HN2:=Lib.hid (HN1.out k hlt)
     clear hx hbs hck hle hunq hun9 hpm HK DE hu HQ hbl
     have Bz:=hB.alloc hB.size (.cells #[.int .i64 y0,.int .i64 x0,.int .i64 x1,.string ⟨x2.toArray⟩,.string ⟨x3.toArray⟩,.slice ua un uc] 55)
     have Z:=SBox.new wr 55 #[.int .i64 y0,.int .i64 x0,.int .i64 x1,.string ⟨x2.toArray⟩,.string ⟨x3.toArray⟩,.slice ua un uc]
     have Xz:=HXr.out.alloc (.cells #[.int .i64 y0,.int .i64 x0,.int .i64 x1,.string ⟨x2.toArray⟩,.string ⟨x3.toArray⟩,.slice ua un uc] 55)
     have z1:=Z.cell 1 _ rfl
     have z2:=Z.cell 2 _ rfl
     have z3:=Z.cell 3 _ rfl
     have z4:=Z.cell 4 _ rfl
     have HZ:=Lib.hid Z
     have HXz:=Lib.hid Xz
     clear Z Xz HXr
     have z0:=HZ.out.cell 0 _ rfl
     have x12:=HXz.out.cell 12 _ rfl
     go_upto_region 10 with fail
     clear v0 v1 v2 v3 v4 v5 l12
     obtain ⟨WA,hWA⟩:∃ W,wr.alloc (.cells #[.int .i64 y0,.int .i64 x0,.int .i64 x1,.string ⟨x2.toArray⟩,.string ⟨x3.toArray⟩,.slice ua un uc] 55)=W:=⟨_,rfl⟩
     rw [hWA] at Bz z0 z1 z2 z3 z4 x12 HZ HXz ⊢
     clear hWA
     have HZc:=Lib.hid (And.intro z1 (And.intro z2 (And.intro z3 z4)))
     have hpv:=HPv.out WA Bz
     have H3:(decide ((k:Int) > 0)=false∧decide (0 < k)=false∧le=false)∨(decide ((k:Int) > 0)=true∧decide (0 < k)=true∧0 < k∧decide (pp ≥ y0)=false∧le=false)∨(decide ((k:Int) > 0)=true∧decide (0 < k)=true∧0 < k∧decide (pp ≥ y0)=true∧le=true):=by
      rcases Nat.eq_zero_or_pos k with h0 | h0
      ·refine .inl ⟨decide_eq_false (by omega),decide_eq_false (by omega),?_⟩
       have:=HLE.out
       rw [decide_eq_false (show ¬ k > 0 by omega)] at this
       exact this.symm
      ·have:=HLE.out
       rw [decide_eq_true (show k > 0 from h0),Bool.true_and] at this
       by_cases hg:pp ≥ y0
       ·exact .inr (.inr ⟨decide_eq_true (by omega),decide_eq_true h0,h0,decide_eq_true hg,by rw [← this];exact decide_eq_true hg⟩)
       ·exact .inr (.inl ⟨decide_eq_true (by omega),decide_eq_true h0,h0,decide_eq_false hg,by rw [← this];exact decide_eq_false hg⟩)
     rcases H3 with ⟨s1,s2,rfl⟩ | ⟨s1,s2,s3,s4,rfl⟩ | ⟨s1,s2,s3,s4,rfl⟩
     rotate_right
     ·have HR:Hid (rv=14):=HN2.out HKK.out
      have jsb:=jsub s3
      clear jsub s3
      refine region_far (by kernel_rfl) (by kernel_rfl) ?_
      repeat (first | go_big_quiet_skip | (go_big_quiet_want;go_big_quiet_op;go_big_quiet_on))
      refine wpQuiet_nil ?_
      rintro w' ⟨U,rfl⟩
      have Be:=bel_trans Bz (farW_bel WA U)
      generalize farW WA U=wE at Be ⊢
      go_wp2_with fail
      go_ret
      exact ⟨by rw [HR.out];rfl,Be⟩
     all_goals
      (try have jsb:=jsub s3)
      clear jsub
      refine region_far (by kernel_rfl) (by kernel_rfl) ?_
      repeat (first | go_big_quiet_skip | (go_big_quiet_want;go_big_quiet_op;go_big_quiet_on))
      refine wpQuiet_nil ?_
      rintro w' ⟨U,rfl⟩
      have Be:=bel_trans Bz (farW_bel WA U)
      have Zf:=HZ.out.below (farW_bel WA U)
      have Xf:=HXz.out.below (farW_bel WA U)
      generalize farW WA U=wE at Be Zf Xf ⊢
      clear z0 z1 z2 z3 z4 x12 hpv s1 s2 HZ HXz Bz
      have z1:=Zf.cell 1 _ rfl
      have z2:=Zf.cell 2 _ rfl
      have z3:=Zf.cell 3 _ rfl
      have z4:=Zf.cell 4 _ rfl
      have HZf:=Lib.hid Zf
      have HXf:=Lib.hid Xf
      clear Zf Xf
      go_upto_region 12 with fail
      go_wp2_with fail
      refine (HDE.out _).mono ?_
      rintro e w2 ⟨rfl,b2⟩
      have B2:=bel_trans Be b2
      have Z2:=HZf.out.below b2
      have X2:=HXf.out.below b2
      have z0:=Z2.cell 0 _ rfl
      have z5:=Z2.cell 5 _ rfl
      have x4:=X2.cell 4 _ rfl
      have HX2:=Lib.hid X2
      clear z1 z2 z3 z4 Z2 X2 HDE hB HZf HXf b2
      have DC:=CKu.out _ B2
      by_cases hc0:ck=0
      ·have HE:=Lib.hid (HB2.out (by rw [HKK.out,decide_eq_true hc0];rfl))
       subst hc0
       go_wp2_with fail
       refine DC.mono ?_
       rintro e w3 ⟨rfl,b3⟩
       have B3:=bel_trans B2 b3
       have HX3:=Lib.hid (HX2.out.below b3)
       clear z0 z5 x4 b3 B2 HX2
       go_wp2_with fail
       go_roundw
       case rel=>exact ⟨k+1,by omega,by first | go_num | simp,HE,B3,HX3⟩
       case measure=>simp [RowKit.intOf];omega
      ·have HR:Hid (rv=14):=HN2.out (by rw [HKK.out,decide_eq_false hc0];rfl)
       have e7:((ck:Int)==0)=false:=beq_eq_false_iff_ne.2 (by omega)
       have e8:((ck:Int) != 0)=true:=bne_iff_ne.2 (by omega)
       go_wp2_with fail
       refine DC.mono ?_
       rintro e w3 ⟨rfl,b3⟩
       go_wp2_with fail
       go_ret
       exact ⟨by rw [HR.out];rfl,bel_trans B2 b3⟩
    ·obtain rfl:k=np:=by omega
     have l12:=HXr.out.cell 12 _ rfl
     have jq:¬ (k:Int) < (k:Int):=by omega
     have HR:Hid (rv=0):=HY1.out HF.out
     go_wp2_with fail
     go_ret
     exact ⟨by rw [HR.out];rfl,hB⟩
  ·have e1:(rt==root)=false:=beq_eq_false_iff_ne.2 hrt
   have e1n:(rt != root)=true:=bne_iff_ne.2 hrt
   rw [if_pos hrt]
   clear hrt
   go_enter Tryz.func12,Tryz.ntmps12
   go_wp2_with fail
   refine DM.mono ?_
   rintro e w1 ⟨rfl,b1⟩
   have B1:=bel_trans HB.out b1
   have X1:=HX.out.below b1
   clear c0 c1 c2 c3 c4 c5 c6 c7 c8 c9 c10 c11 c12 b1 DM
   have c3:=X1.cell 3 _ rfl
   clear X1
   go_wp2_with fail
   go_ret
   exact ⟨rfl,B1⟩
 ·rw [decide_eq_false hm] at DM
  rw [if_pos hm]
  clear hm HMy
  go_enter Tryz.func12,Tryz.ntmps12
  go_wp2_with fail
  refine DM.mono ?_
  rintro e w1 ⟨rfl,b1⟩
  go_wp2_with fail
  go_ret
  exact ⟨rfl,bel_trans HB.out b1⟩
end Go.Proofs.YthamoeekiglphaaGreatDoor
