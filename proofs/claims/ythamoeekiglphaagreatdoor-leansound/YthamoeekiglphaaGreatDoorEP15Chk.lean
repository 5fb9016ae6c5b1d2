/-
  What lean.shown, Proved and Check answer.
-/
import Derived.Test.YthamoeekiglphaaGreatDoorEP15Bad
import Derived.Test.YthamoeekiglphaaGreatDoorEP14May
import Derived.Test.YthamoeekiglphaaGreatDoorEL2a
namespace Go.Proofs.YthamoeekiglphaaGreatDoor
set_option maxRecDepth 100000
open Go.RowKit
set_option linter.unusedVariables false
attribute [local go_sem] ba_size
def shB (c:Ct):Bool:=if c.2.2.2.2.2.1.2.2.2.1.1≠0 then decide (c.2.2.2.2.2.1.2.2.2.2=[])&&badB c.2.2.2.2.2.2 c.2.2.2.2.2.1.2.2.2.1 else ringB c.2.2.2.2.2.2 c.2.2.2.2.2.1.1 c.2.2.2.2.2.1.2.2.2.2
theorem leanL_is (sm:List UInt8→List UInt8) (c:Ct) (root:List UInt8):leanL sm c root=if provL sm c root≠0 then provL sm c root else if c.2.2.2.2.2.1.2.1=true then 9 else if c.2.2.2.2.2.1.2.2.1≠[]∨shB c=false then 14 else 0:=by
 unfold leanL
 by_cases h1:provL sm c root≠0
 ·rw [if_pos h1,if_pos h1]
 ·rw [if_neg h1,if_neg h1]
  by_cases h2:c.2.2.2.2.2.1.2.1=true
  ·rw [if_pos h2,if_pos h2]
  ·rw [if_neg h2,if_neg h2]
   by_cases h3:c.2.2.2.2.2.1.2.2.1≠[]
   ·rw [if_pos h3,if_pos (.inl h3)]
   ·rw [if_neg h3]
    unfold shB
    by_cases h4:c.2.2.2.2.2.1.2.2.2.1.1≠0
    ·rw [if_pos h4,if_pos h4]
     by_cases h5:c.2.2.2.2.2.1.2.2.2.2=[]∧badB c.2.2.2.2.2.2 c.2.2.2.2.2.1.2.2.2.1=true
     ·rw [if_pos h5,if_neg (fun h=>h.elim h3 (fun h=>by rw [decide_eq_true h5.1,h5.2] at h;cases h))]
     ·rw [if_neg h5,if_pos (.inr (by
       by_cases h6:c.2.2.2.2.2.1.2.2.2.2=[]
       ·rw [decide_eq_true h6,Bool.true_and];exact Bool.eq_false_iff.2 (fun h=>h5 ⟨h6,h⟩)
       ·rw [decide_eq_false h6];rfl))]
    ·rw [if_neg h4,if_neg h4]
     cases h5:ringB c.2.2.2.2.2.2 c.2.2.2.2.2.1.1 c.2.2.2.2.2.1.2.2.2.2 with
     | true=>rw [if_pos rfl,if_neg (fun h=>h.elim h3 (fun h=>by cases h))]
     | false=>rw [if_neg (by decide),if_pos (.inr rfl)]
set_option maxHeartbeats 4000000 in
theorem pshown15 (tn:List UInt8) (sq:Int) (pv rt:List UInt8) (ct lv bk bi bj:Int) (ac:Bool) (oa:Option Addr) (oc:Nat) (o:List Int) (ra:Option Addr) (rc:Nat) (r:List Ed) (pa:Option Addr) (pc:Nat) (p:List Pf) (w:World) (hO:IsInts w (.slice oa o.length oc) o) (hR:IsEds w (.slice ra r.length rc) r) (hP:IsPfs w (.slice pa p.length pc) p) :
 Calls Tryz.prog 38 #[.agg #[.string ⟨tn.toArray⟩,.int .i64 sq,.string ⟨pv.toArray⟩,.string ⟨rt.toArray⟩,.int .i64 ct,.int .i64 lv,.bool ac,.slice oa o.length oc,.int .i64 bk,.int .i64 bi,.int .i64 bj,.slice ra r.length rc,.slice pa p.length pc]] w fun e w'=>e=.returned (.bool (shB (tn,sq,pv,rt,ct,(lv,ac,o,(bk,bi,bj),r),p)))∧Below w.heap.size w w':=by
 have X0:=SBox.new w 30 #[.string ⟨tn.toArray⟩,.int .i64 sq,.string ⟨pv.toArray⟩,.string ⟨rt.toArray⟩,.int .i64 ct,.int .i64 lv,.bool ac,.slice oa o.length oc,.int .i64 bk,.int .i64 bi,.int .i64 bj,.slice ra r.length rc,.slice pa p.length pc];have B0:=(Below.refl w.heap.size w).alloc (Nat.le_refl _) (.cells #[.string ⟨tn.toArray⟩,.int .i64 sq,.string ⟨pv.toArray⟩,.string ⟨rt.toArray⟩,.int .i64 ct,.int .i64 lv,.bool ac,.slice oa o.length oc,.int .i64 bk,.int .i64 bi,.int .i64 bj,.slice ra r.length rc,.slice pa p.length pc] 30);have DB:=pbad15_any p _ _ (hP.below B0) bk bi bj;have DR:=pround15_any p _ _ (hP.below B0) lv r _ (hR.below B0);obtain ⟨no,hno⟩:∃ n,o.length=n:=⟨_,rfl⟩;obtain ⟨nr,hnr⟩:∃ n,r.length=n:=⟨_,rfl⟩
 obtain ⟨np,hnp⟩:∃ n,p.length=n:=⟨_,rfl⟩;have hs:shB (tn,sq,pv,rt,ct,(lv,ac,o,(bk,bi,bj),r),p)=(if bk≠0 then decide (r=[])&&badB p (bk,bi,bj) else ringB p lv r):=rfl
 have hr0:decide (r=[])=(nr==0):=by
  rw [← hnr];cases r<;>rfl
 rw [hs,hr0];obtain ⟨sb,hsb⟩:∃ b,badB p (bk,bi,bj)=b:=⟨_,rfl⟩;obtain ⟨sr,hsr⟩:∃ b,ringB p lv r=b:=⟨_,rfl⟩;rw [hsb] at DB;rw [hsr] at DR;rw [hsb,hsr];rw [hno,hnr,hnp] at X0 B0;simp only [hno,hnr,hnp] at DB DR ⊢;have HB:=Lib.hid B0;have HDB:=Lib.hid DB;have HDR:=Lib.hid DR;have c5:=X0.cell 5 _ rfl;have c8:=X0.cell 8 _ rfl;have c9:=X0.cell 9 _ rfl;have c10:=X0.cell 10 _ rfl;have c11:=X0.cell 11 _ rfl;have c12:=X0.cell 12 _ rfl;clear hs hr0 hsb hsr hno hnr hnp hO hR hP B0 X0 DB DR
 by_cases d:bk=0
 ·have e1:(bk != 0)=false:=by rw [d];rfl
  have e2:(bk==0)=true:=by rw [d];rfl
  rw [if_neg (fun h=>h d)];clear d;have DR:=HDR.out;go_enter Tryz.func38,Tryz.ntmps38
  go_wp2_with fail
  refine DR.mono ?_;rintro e w1 ⟨rfl,b1⟩;go_wp2_with fail
  go_ret
  exact ⟨rfl,bel_trans HB.out b1⟩
 ·have e1:(bk != 0)=true:=bne_iff_ne.2 d
  have e2:(bk==0)=false:=beq_eq_false_iff_ne.2 d;rw [if_pos d];clear d
  by_cases d2:nr=0
  ·have e3:decide ((nr:Int)=0)=true:=decide_eq_true (by omega)
   have e4:(nr==0)=true:=beq_iff_eq.2 d2;rw [e4];subst d2;have DB:=HDB.out;clear e3 e4;go_enter Tryz.func38,Tryz.ntmps38
   go_wp2_with fail
   refine DB.mono ?_;rintro e w1 ⟨rfl,b1⟩;go_wp2_with fail
   go_ret
   exact ⟨by rw [Bool.true_and];rfl,bel_trans HB.out b1⟩
  ·have e3:((nr:Int)==0)=false:=beq_eq_false_iff_ne.2 (by omega)
   have e4:(nr==0)=false:=beq_eq_false_iff_ne.2 d2;rw [e4];go_enter Tryz.func38,Tryz.ntmps38
   go_wp2_with fail
   go_ret
   exact ⟨by rw [Bool.false_and];rfl,HB.out⟩
theorem pfU_no (sm:List UInt8→List UInt8) (root:List UInt8) (n:Int) (l:List Pf) (m k:Nat) (hk:k < m) (h:pfK15 sm root n l k=false):pfU15 sm root n l m=false:=all_no _ hk h
theorem pfU_yes (sm:List UInt8→List UInt8) (root:List UInt8) (n:Int) (l:List Pf) (m:Nat) (h:∀ k,k < m→pfK15 sm root n l k=true):pfU15 sm root n l m=true:=List.all_eq_true.2 (fun x hx=>h x (List.mem_range.1 hx))
def ahI (p:List Pf) (k:Nat):Int:=if k=0 then -1 else (pf15 p (k - 1)).1
set_option maxHeartbeats 4000000 in
theorem pproved15 (tn:List UInt8) (sq:Int) (pv rt:List UInt8) (ct lv bk bi bj:Int) (ac:Bool) (oa:Option Addr) (oc:Nat) (o:List Int) (ra:Option Addr) (rc:Nat) (r:List Ed) (pa:Option Addr) (pc:Nat) (p:List Pf) (root:List UInt8) (w:World) (hG:G w) (hO:IsInts w (.slice oa o.length oc) o) (hR:IsEds w (.slice ra r.length rc) r) (hP:IsPfs w (.slice pa p.length pc) p) :
 Calls Tryz.prog 11 #[.agg #[.string ⟨tn.toArray⟩,.int .i64 sq,.string ⟨pv.toArray⟩,.string ⟨rt.toArray⟩,.int .i64 ct,.int .i64 lv,.bool ac,.slice oa o.length oc,.int .i64 bk,.int .i64 bi,.int .i64 bj,.slice ra r.length rc,.slice pa p.length pc],.string ⟨root.toArray⟩] w fun e w'=>e=.returned (.int .i64 (provL sumL (tn,sq,pv,rt,ct,(lv,ac,o,(bk,bi,bj),r),p) root))∧Below w.heap.size w w':=by
 have hg3:=hG.size;have X0:=SBox.new w 30 #[.string ⟨tn.toArray⟩,.int .i64 sq,.string ⟨pv.toArray⟩,.string ⟨rt.toArray⟩,.int .i64 ct,.int .i64 lv,.bool ac,.slice oa o.length oc,.int .i64 bk,.int .i64 bi,.int .i64 bj,.slice ra r.length rc,.slice pa p.length pc];have B0:=(Below.refl w.heap.size w).alloc (Nat.le_refl _) (.cells #[.string ⟨tn.toArray⟩,.int .i64 sq,.string ⟨pv.toArray⟩,.string ⟨rt.toArray⟩,.int .i64 ct,.int .i64 lv,.bool ac,.slice oa o.length oc,.int .i64 bk,.int .i64 bi,.int .i64 bj,.slice ra r.length rc,.slice pa p.length pc] 30);have DM:=pmayc14 tn sq pv rt ct lv bk bi bj ac oa oc o ra rc r pa pc p _ (hO.below B0) (hR.below B0) (hP.below B0);have HPr0:∀ n,p.length=n→Hid (provL sumL (tn,sq,pv,rt,ct,(lv,ac,o,(bk,bi,bj),r),p) root=if ¬ mayC (tn,sq,pv,rt,ct,(lv,ac,o,(bk,bi,bj),r),p) then 1 else if rt≠root then 13 else if pfU15 sumL root ct p n=true then 0 else 14):=fun n h=>by subst h;rfl
 have HMy:Hid (mayC (tn,sq,pv,rt,ct,(lv,ac,o,(bk,bi,bj),r),p)→∀ q∈p,pfM q):=fun h=>h.2.2.2
 have CK:=Lib.hid (fun (i:Int) (s:List UInt8) (hs:s.length≤1125899906842500) (q:List (List UInt8)) (u:Value) (V:World) (hV:Below w.heap.size w V) (hT:IsTxt V u q)=>pcheck_any root ct i s hs q u V (hG.below hV hg3) hT);have HLen:=hP.len;obtain ⟨pa',pc',hpe,k1,k2,k3⟩:=HLen;obtain ⟨rfl,rfl⟩:pa=pa'∧pc=pc':=by simpa using hpe
 obtain ⟨pa2,pc2,hpe2,_,_,_,HC⟩:=hP.reads;obtain ⟨rfl,rfl⟩:pa=pa2∧pc=pc2:=by simpa using hpe2
 obtain ⟨no,hno⟩:∃ n,o.length=n:=⟨_,rfl⟩;obtain ⟨nr,hnr⟩:∃ n,r.length=n:=⟨_,rfl⟩;obtain ⟨np,hnp⟩:∃ n,p.length=n:=⟨_,rfl⟩;have HN:=Lib.hid hnp;have HPr:=HPr0 np hnp;clear HPr0;rw [hnp] at k1 k3;rw [hno,hnr,hnp] at X0 B0;simp only [hno,hnr,hnp] at DM ⊢;rw [HPr.out];have HB:=Lib.hid B0;have HX:=Lib.hid X0;have c0:=X0.cell 0 _ rfl;have c1:=X0.cell 1 _ rfl;have c2:=X0.cell 2 _ rfl;have c3:=X0.cell 3 _ rfl;have c4:=X0.cell 4 _ rfl;have c5:=X0.cell 5 _ rfl;have c6:=X0.cell 6 _ rfl;have c7:=X0.cell 7 _ rfl;have c8:=X0.cell 8 _ rfl;have c9:=X0.cell 9 _ rfl;have c10:=X0.cell 10 _ rfl;have c11:=X0.cell 11 _ rfl;have c12:=X0.cell 12 _ rfl;clear hpe hpe2 hno hnr hnp hO hR hP B0 X0 HPr
 by_cases hm:mayC (tn,sq,pv,rt,ct,(lv,ac,o,(bk,bi,bj),r),p)
 ·rw [decide_eq_true hm] at DM
  rw [if_neg (fun h=>h hm)];have HM2:=Lib.hid (HMy.out hm);clear hm HMy
  by_cases hrt:rt=root
  ·have e1:(rt==root)=true:=by rw [hrt];exact beq_self_eq_true _
   have e1n:(rt != root)=false:=by rw [hrt];exact bne_self_eq_false _
   rw [if_neg (fun h=>h hrt)];clear hrt;obtain ⟨rv,hrv⟩:∃ z,(if pfU15 sumL root ct p np=true then (0:Int) else 14)=z:=⟨_,rfl⟩;have HN1:Hid (∀ k,k < np→pfK15 sumL root ct p k=false→rv=14):=fun k hk h=>by rw [← hrv,pfU_no sumL root ct p np k hk h];rfl
   have HY1:Hid ((∀ k,k < np→pfK15 sumL root ct p k=true)→rv=0):=fun h=>by rw [← hrv,pfU_yes sumL root ct p np h];rfl
   rw [hrv];clear hrv;go_enter Tryz.func11,Tryz.ntmps11
   go_wp2_with fail
   refine DM.mono ?_;rintro e w1 ⟨rfl,b1⟩;have B1:=bel_trans HB.out b1;have X1:=HX.out.below b1;clear c0 c1 c2 c3 c4 c5 c6 c7 c8 c9 c10 c11 c12 b1 DM;have c3:=X1.cell 3 _ rfl;have c12:=X1.cell 12 _ rfl;have HX1:=Lib.hid X1;clear X1;go_wp2_with fail
   go_loopw [5,22] (fun ah i wr=>∃ k:Nat,k≤np∧i=.int .i64 k∧ah=.int .i64 (ahI p k)∧Hid (∀ j,j < k→pfK15 sumL root ct p j=true)∧Below w.heap.size w wr∧Hid (SBox wr w.heap.size 30 #[.string ⟨tn.toArray⟩,.int .i64 sq,.string ⟨pv.toArray⟩,.string ⟨rt.toArray⟩,.int .i64 ct,.int .i64 lv,.bool ac,.slice oa no oc,.int .i64 bk,.int .i64 bi,.int .i64 bj,.slice ra nr rc,.slice pa np pc])) (fun _ i _=>np - (RowKit.intOf i).toNat)
   case atStart=>exact ⟨0,Nat.zero_le _,rfl,rfl,(fun j hj=>absurd hj (by omega)),B1,HX1⟩
   case round =>
    obtain ⟨k,hk,rfl,rfl,HF,hB,HXr⟩:=hrel
    by_cases hlt:k < np
    ·have j0:(k:Int) < (np:Int):=by omega
     have hkl:k < p.length:=by have:=HN.out;omega
     obtain ⟨bb,off,rfl,u,hu,HQ⟩:=HC.out k hkl;obtain ⟨v0,v1,v2,v3,v4,v5⟩:=HQ wr hB;obtain ⟨ua,uc,rfl,hun9⟩:=hu.some_at;have hpm:=HM2.out p[k] (List.getElem_mem hkl)
     have HK:Hid (pfK15 sumL root ct p k=(!decide (p[k].1≤ahI p k)&&decide (checkL sumL root ct p[k].1 (bytE p[k].2.1) p[k].2.2=0))):=by
      show _=_;unfold pfK15 ahI;rw [pf15_at p k hkl,← decide_not]
      congr 1
      by_cases hk0:k=0
      ·subst hk0
       rw [if_pos rfl];have:=hpm.1.1.1;rw [decide_eq_true (show ¬ (p[0].1≤-1) by omega)];rfl
      ·rw [if_neg hk0,decide_eq_false hk0,Bool.false_or]
       exact decide_eq_decide.2 (by omega)
     have HA:Hid (ahI p (k+1)=p[k].1):=by
      show _=_;unfold ahI;rw [if_neg (by omega),Nat.add_sub_cancel,pf15_at p k hkl]
     have hbl:=(bytE_len p[k].2.1 hpm.1.2).1;have DE:=fun W=>pbytes6_any p[k].2.1.1 p[k].2.1.2.1 p[k].2.1.2.2.1 p[k].2.1.2.2.2 W
     rw [show (p[k].2.1.1,p[k].2.1.2.1,p[k].2.1.2.2.1,p[k].2.1.2.2.2)=p[k].2.1 from rfl,bytesE_ok _ hpm.1.2] at DE;obtain ⟨⟨y0,⟨x0,x1,x2,x3⟩,q⟩,hx⟩:∃ x,p[k]=x:=⟨_,rfl⟩;rw [hx] at v0 v1 v2 v3 v4 v5 hu HK HA hbl;simp only [hx] at DE;simp only at v0 v1 v2 v3 v4 v5 hu HK HA hbl DE;obtain ⟨un,hunq⟩:∃ n,q.length=n:=⟨_,rfl⟩;obtain ⟨bs,hbs⟩:∃ z,bytE (x0,x1,x2,x3)=z:=⟨_,rfl⟩;rw [hbs] at DE hbl HK;rw [hunq] at v5 hu;have CKu:=Lib.hid (fun V (hV:Below w.heap.size w V)=>CK.out y0 bs (by omega) q _ V hV (hu.below hV));obtain ⟨ck,hck⟩:∃ z,checkL sumL root ct y0 bs q=z:=⟨_,rfl⟩;rw [hck] at CKu HK;obtain ⟨ah,hah⟩:∃ z,ahI p k=z:=⟨_,rfl⟩;rw [hah] at HK ⊢;obtain ⟨le,hle⟩:∃ b,decide (y0≤ah)=b:=⟨_,rfl⟩;have HDE:=Lib.hid (DE)
     have HKK:Hid (pfK15 sumL root ct p k=(!le&&decide (ck=0))):=by show _=_;rw [← hle];exact HK.out
     have HB2:Hid (pfK15 sumL root ct p k=true→∀ j,j < k+1→pfK15 sumL root ct p j=true):=fun hh j hj=>by
      rcases Nat.lt_or_ge j k with hj2 | hj2
      ·exact HF.out j hj2
      ·obtain rfl:j=k:=by omega
       exact hh
     have HN2:=Lib.hid (HN1.out k hlt);clear hx hbs hck hah hunq hun9 hpm HK DE hu HQ hbl;have Bz:=hB.alloc hB.size (.cells #[.int .i64 y0,.int .i64 x0,.int .i64 x1,.string ⟨x2.toArray⟩,.string ⟨x3.toArray⟩,.slice ua un uc] 55);have Z:=SBox.new wr 55 #[.int .i64 y0,.int .i64 x0,.int .i64 x1,.string ⟨x2.toArray⟩,.string ⟨x3.toArray⟩,.slice ua un uc];have Xz:=HXr.out.alloc (.cells #[.int .i64 y0,.int .i64 x0,.int .i64 x1,.string ⟨x2.toArray⟩,.string ⟨x3.toArray⟩,.slice ua un uc] 55);have z1:=Z.cell 1 _ rfl;have z2:=Z.cell 2 _ rfl;have z3:=Z.cell 3 _ rfl;have z4:=Z.cell 4 _ rfl;have HZ:=Lib.hid Z;have HXz:=Lib.hid Xz;clear Z Xz HXr;go_upto_region 9 with fail
     clear v0 v1 v2 v3 v4 v5;go_wp2_with fail
     refine (HDE.out _).mono ?_;rintro e w2 ⟨rfl,b2⟩;have B2:=bel_trans Bz b2;have Z2:=HZ.out.below b2;have X2:=HXz.out.below b2;have z0:=Z2.cell 0 _ rfl;have z5:=Z2.cell 5 _ rfl;have x4:=X2.cell 4 _ rfl;have HZ2:=Lib.hid Z2;have HX2:=Lib.hid X2;clear Bz HZ HXz b2 z1 z2 z3 z4 Z2 X2 HDE hB;cases le with
     | true =>
       have HR:Hid (rv=14):=HN2.out HKK.out;go_wp2_with fail
       go_ret
       exact ⟨by rw [HR.out];rfl,B2⟩
     | false =>
       have DC:=CKu.out _ B2
       by_cases hc0:ck=0
       ·have HE:=Lib.hid (HB2.out (by rw [HKK.out,decide_eq_true hc0];rfl))
        subst hc0;go_wp2_with fail
        refine DC.mono ?_;rintro e w3 ⟨rfl,b3⟩;have B3:=bel_trans B2 b3;have Z3:=HZ2.out.below b3;have HX3:=Lib.hid (HX2.out.below b3);clear z0 z5 x4;have z0:=Z3.cell 0 _ rfl;clear Z3 b3 B2 HZ2 HX2;go_wp2_with fail
        refine ⟨⟨k+1,by omega,by first | go_num | simp,by rw [HA.out],HE,B3,HX3⟩,by simp [RowKit.intOf];omega⟩
       ·have HR:Hid (rv=14):=HN2.out (by rw [HKK.out,decide_eq_false hc0];rfl)
        have e7:((ck:Int)==0)=false:=beq_eq_false_iff_ne.2 (by omega);have e8:((ck:Int) != 0)=true:=bne_iff_ne.2 (by omega);go_wp2_with fail
        refine DC.mono ?_;rintro e w3 ⟨rfl,b3⟩;go_wp2_with fail
        go_ret
        exact ⟨by rw [HR.out];rfl,bel_trans B2 b3⟩
    ·obtain rfl:k=np:=by omega
     have jq:¬ (k:Int) < (k:Int):=by omega
     have HR:Hid (rv=0):=HY1.out HF.out;go_wp2_with fail
     go_ret
     exact ⟨by rw [HR.out];rfl,hB⟩
  ·have e1:(rt==root)=false:=beq_eq_false_iff_ne.2 hrt
   have e1n:(rt != root)=true:=bne_iff_ne.2 hrt;rw [if_pos hrt];clear hrt;go_enter Tryz.func11,Tryz.ntmps11
   go_wp2_with fail
   refine DM.mono ?_;rintro e w1 ⟨rfl,b1⟩;have B1:=bel_trans HB.out b1;have X1:=HX.out.below b1;clear c0 c1 c2 c3 c4 c5 c6 c7 c8 c9 c10 c11 c12 b1 DM;have c3:=X1.cell 3 _ rfl;clear X1;go_wp2_with fail
   go_ret
   exact ⟨rfl,B1⟩
 ·rw [decide_eq_false hm] at DM
  rw [if_pos hm];clear hm HMy;go_enter Tryz.func11,Tryz.ntmps11
  go_wp2_with fail
  refine DM.mono ?_;rintro e w1 ⟨rfl,b1⟩;go_wp2_with fail
  go_ret
  exact ⟨rfl,bel_trans HB.out b1⟩
set_option maxHeartbeats 4000000 in
theorem pcheck15 (tn:List UInt8) (sq:Int) (pv rt:List UInt8) (ct lv bk bi bj:Int) (ac:Bool) (oa:Option Addr) (oc:Nat) (o:List Int) (ra:Option Addr) (rc:Nat) (r:List Ed) (pa:Option Addr) (pc:Nat) (p:List Pf) (root:List UInt8) (w:World) (hG:G w) (hO:IsInts w (.slice oa o.length oc) o) (hR:IsEds w (.slice ra r.length rc) r) (hP:IsPfs w (.slice pa p.length pc) p) :
 Calls Tryz.prog 13 #[.agg #[.string ⟨tn.toArray⟩,.int .i64 sq,.string ⟨pv.toArray⟩,.string ⟨rt.toArray⟩,.int .i64 ct,.int .i64 lv,.bool ac,.slice oa o.length oc,.int .i64 bk,.int .i64 bi,.int .i64 bj,.slice ra r.length rc,.slice pa p.length pc],.string ⟨root.toArray⟩] w fun e w'=>e=.returned (.int .i64 (leanL sumL (tn,sq,pv,rt,ct,(lv,ac,o,(bk,bi,bj),r),p) root))∧Below w.heap.size w w':=by
 have hg3:=hG.size;have X0:=SBox.new w 30 #[.string ⟨tn.toArray⟩,.int .i64 sq,.string ⟨pv.toArray⟩,.string ⟨rt.toArray⟩,.int .i64 ct,.int .i64 lv,.bool ac,.slice oa o.length oc,.int .i64 bk,.int .i64 bi,.int .i64 bj,.slice ra r.length rc,.slice pa p.length pc];have B0:=(Below.refl w.heap.size w).alloc (Nat.le_refl _) (.cells #[.string ⟨tn.toArray⟩,.int .i64 sq,.string ⟨pv.toArray⟩,.string ⟨rt.toArray⟩,.int .i64 ct,.int .i64 lv,.bool ac,.slice oa o.length oc,.int .i64 bk,.int .i64 bi,.int .i64 bj,.slice ra r.length rc,.slice pa p.length pc] 30);have DP:=pproved15 tn sq pv rt ct lv bk bi bj ac oa oc o ra rc r pa pc p root _ (hG.below B0 hg3) (hO.below B0) (hR.below B0) (hP.below B0);have DS:=fun V (hV:Below w.heap.size w V)=>pshown15 tn sq pv rt ct lv bk bi bj ac oa oc o ra rc r pa pc p V (hO.below hV) (hR.below hV) (hP.below hV)
 obtain ⟨no,hno⟩:∃ n,o.length=n:=⟨_,rfl⟩;obtain ⟨nr,hnr⟩:∃ n,r.length=n:=⟨_,rfl⟩;obtain ⟨np,hnp⟩:∃ n,p.length=n:=⟨_,rfl⟩;have HL:Hid (leanL sumL (tn,sq,pv,rt,ct,(lv,ac,o,(bk,bi,bj),r),p) root=if provL sumL (tn,sq,pv,rt,ct,(lv,ac,o,(bk,bi,bj),r),p) root≠0 then provL sumL (tn,sq,pv,rt,ct,(lv,ac,o,(bk,bi,bj),r),p) root else if ac=true then 9 else if o≠[]∨shB (tn,sq,pv,rt,ct,(lv,ac,o,(bk,bi,bj),r),p)=false then 14 else 0):=leanL_is sumL _ root;have ho0:o=[]↔no=0:=by rw [← hno];exact List.length_eq_zero_iff.symm
 rw [HL.out];obtain ⟨pr,hpr⟩:∃ z,provL sumL (tn,sq,pv,rt,ct,(lv,ac,o,(bk,bi,bj),r),p) root=z:=⟨_,rfl⟩;obtain ⟨sh,hsh⟩:∃ z,shB (tn,sq,pv,rt,ct,(lv,ac,o,(bk,bi,bj),r),p)=z:=⟨_,rfl⟩;rw [hpr] at DP;rw [hpr,hsh];simp only [hsh] at DS;rw [hno,hnr,hnp] at X0 B0;simp only [hno,hnr,hnp] at DP DS ⊢;have HB:=Lib.hid B0;have HX:=Lib.hid X0;have HO:=Lib.hid ho0;have HDS:=Lib.hid DS;have c0:=X0.cell 0 _ rfl;have c1:=X0.cell 1 _ rfl;have c2:=X0.cell 2 _ rfl;have c3:=X0.cell 3 _ rfl;have c4:=X0.cell 4 _ rfl;have c5:=X0.cell 5 _ rfl;have c6:=X0.cell 6 _ rfl;have c7:=X0.cell 7 _ rfl;have c8:=X0.cell 8 _ rfl;have c9:=X0.cell 9 _ rfl;have c10:=X0.cell 10 _ rfl;have c11:=X0.cell 11 _ rfl;have c12:=X0.cell 12 _ rfl
 clear hno hnr hnp hO hR hP B0 X0 HL hpr hsh hG ho0 DS
 by_cases h0:pr=0
 ·rw [if_neg (fun h=>h h0)]
  subst h0;cases ac with
  | true =>
    rw [if_pos rfl];go_enter Tryz.func13,Tryz.ntmps13
    go_wp2_with fail
    refine DP.mono ?_;rintro e w1 ⟨rfl,b1⟩;have B1:=bel_trans HB.out b1;have X1:=HX.out.below b1;clear c0 c1 c2 c3 c4 c5 c6 c7 c8 c9 c10 c11 c12 b1 DP;have c6:=X1.cell 6 _ rfl;clear X1;go_wp2_with fail
    go_ret
    exact ⟨rfl,B1⟩
  | false =>
    rw [if_neg (by decide)]
    by_cases hn0:no=0
    ·subst hn0
     have ho:o=[]:=HO.out.2 rfl
     have H1:Hid ((if o≠[]∨sh=false then (14:Int) else 0)=if sh=false then 14 else 0):=by
      show _=_;cases sh with
      | true=>rw [if_neg (fun h=>h.elim (fun h=>h ho) (fun h=>by cases h))];rfl
      | false=>rw [if_pos (.inr rfl)];rfl
     rw [H1.out];clear H1 ho;go_enter Tryz.func13,Tryz.ntmps13
     go_wp2_with fail
     refine DP.mono ?_;rintro e w1 ⟨rfl,b1⟩;have B1:=bel_trans HB.out b1;have X1:=HX.out.below b1;have D2:=HDS.out _ B1;clear c0 c1 c2 c3 c4 c5 c6 c7 c8 c9 c10 c11 c12 b1 DP;have c0:=X1.cell 0 _ rfl;have c1:=X1.cell 1 _ rfl;have c2:=X1.cell 2 _ rfl;have c3:=X1.cell 3 _ rfl;have c4:=X1.cell 4 _ rfl;have c5:=X1.cell 5 _ rfl;have c6:=X1.cell 6 _ rfl;have c7:=X1.cell 7 _ rfl;have c8:=X1.cell 8 _ rfl;have c9:=X1.cell 9 _ rfl;have c10:=X1.cell 10 _ rfl;have c11:=X1.cell 11 _ rfl;have c12:=X1.cell 12 _ rfl;clear X1;cases sh
     all_goals
      go_wp2_with fail
      refine D2.mono ?_;rintro e w2 ⟨rfl,b2⟩;go_wp2_with fail
      go_ret
      exact ⟨rfl,bel_trans B1 b2⟩
    ·have ho:o≠[]:=fun h=>hn0 (HO.out.1 h)
     have e3:decide ((no:Int) > 0)=true:=decide_eq_true (by omega);have e4:decide (0 < no)=true:=decide_eq_true (by omega);rw [if_pos (.inl ho)];clear ho hn0;go_enter Tryz.func13,Tryz.ntmps13
     go_wp2_with fail
     refine DP.mono ?_;rintro e w1 ⟨rfl,b1⟩;have B1:=bel_trans HB.out b1;have X1:=HX.out.below b1;clear c0 c1 c2 c3 c4 c5 c6 c7 c8 c9 c10 c11 c12 b1 DP;have c0:=X1.cell 0 _ rfl;have c1:=X1.cell 1 _ rfl;have c2:=X1.cell 2 _ rfl;have c3:=X1.cell 3 _ rfl;have c4:=X1.cell 4 _ rfl;have c5:=X1.cell 5 _ rfl;have c6:=X1.cell 6 _ rfl;have c7:=X1.cell 7 _ rfl;have c8:=X1.cell 8 _ rfl;have c9:=X1.cell 9 _ rfl;have c10:=X1.cell 10 _ rfl;have c11:=X1.cell 11 _ rfl;have c12:=X1.cell 12 _ rfl;clear X1;go_wp2_with fail
     go_ret
     exact ⟨rfl,B1⟩
 ·have e1:(pr==0)=false:=beq_eq_false_iff_ne.2 h0
  have e2:(pr != 0)=true:=bne_iff_ne.2 h0;rw [if_pos h0];clear h0;go_enter Tryz.func13,Tryz.ntmps13
  go_wp2_with fail
  refine DP.mono ?_;rintro e w1 ⟨rfl,b1⟩;go_wp2_with fail
  go_ret
  exact ⟨rfl,bel_trans HB.out b1⟩
end Go.Proofs.YthamoeekiglphaaGreatDoor
