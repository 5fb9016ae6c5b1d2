/-
  What cartoucheref14.May answers where all hangs on the rows.
-/
import Derived.Test.YthamoeekiglphaaGreatDoorEL0e
namespace Go.Proofs.YthamoeekiglphaaGreatDoor
set_option maxRecDepth 100000
open Go.RowKit
set_option linter.unusedVariables false
attribute [local go_sem] ba_size
set_option maxHeartbeats 16000000 in
theorem rmay14_rows (a p d:List UInt8) (sq ct lv k0 k1 k2:Int) (ac:Bool) (o:List Int) (g:List Ed) (q:List Pf) (oa ra pa:Option Addr) (no oc ng rc nq pc:Nat) (w:World) (e1:1≤a.length∧a.length≤16) (e2:1≤sq∧sq≤1048576) (e3:p.length=0∨p.length=32) (e4:d.length=32) (e5:0≤ct∧ct≤256) (z1:1≤lv∧lv≤2) (z2:no≤32) (z3:0≤k0∧k0≤4) (z4:plM k1) (z5:plM k2) (z6:ng≤128) (z7:nq≤256) (r:Bool) (HNo:Hid (o.length=no)) (HNg:Hid (g.length=ng)) (HNq:Hid (q.length=nq)) (hO:IsInts w (.slice oa no oc) o) (hR:IsEds w (.slice ra ng rc) g) (hP:IsPfs w (.slice pa nq pc) q) (HAll:Hid ((∀ n∈o,txM n)→(∀ e∈g,edM e)→(∀ p∈q,pfM p)→r=true)) (HN1:Hid (∀ n∈o,¬ txM n→r=false)) (HN2:Hid (∀ e∈g,¬ edM e→r=false)) (HN3:Hid (∀ e∈q,¬ pfM e→r=false)) :
 Calls Tryz.prog 36 #[.agg #[.string ⟨a.toArray⟩,.int .i64 sq,.string ⟨p.toArray⟩,.string ⟨d.toArray⟩,.int .i64 ct,.int .i64 lv,.bool ac,.slice oa no oc,.int .i64 k0,.int .i64 k1,.int .i64 k2,.slice ra ng rc,.slice pa nq pc]] w fun e w'=>e=.returned (.bool r)∧Below w.heap.size w w':=by
 obtain ⟨oa',oc',eo,o1,o2,o3,HO⟩:=IsInts.reads hO;obtain ⟨ra',rc',er,r1,r2,r3,HR⟩:=IsEds.reads hR;obtain ⟨pa',pc',ep,p1,p2,p3,HP⟩:=IsPfs.reads hP;simp only [Value.slice.injEq] at eo er ep;obtain ⟨rfl,eo',rfl⟩:=eo;obtain ⟨rfl,er',rfl⟩:=er;obtain ⟨rfl,ep',rfl⟩:=ep;clear eo' er' ep';rw [HNo.out] at o1 o3;rw [HNg.out] at r1 r3;rw [HNq.out] at p1 p3;clear hO hR hP;have q1:¬ (a.length:Int) < 1:=by omega
 have q2:¬ (16:Int) < (a.length:Int):=by omega
 have q3:¬ sq < 1:=by omega
 have q4:¬ 1048576 < sq:=by omega
 have q7:((d.length:Int) != 32)=false:=by rw [e4];rfl
 have q8:¬ ct < 0:=by omega
 have q9:¬ 256 < ct:=by omega
 have X1:=SBox.new w 30 #[.string ⟨a.toArray⟩,.int .i64 sq,.string ⟨p.toArray⟩,.string ⟨d.toArray⟩,.int .i64 ct,.int .i64 lv,.bool ac,.slice oa no oc,.int .i64 k0,.int .i64 k1,.int .i64 k2,.slice ra ng rc,.slice pa nq pc];have B1:=(Below.refl w.heap.size w).alloc (Nat.le_refl _) (.cells #[.string ⟨a.toArray⟩,.int .i64 sq,.string ⟨p.toArray⟩,.string ⟨d.toArray⟩,.int .i64 ct,.int .i64 lv,.bool ac,.slice oa no oc,.int .i64 k0,.int .i64 k1,.int .i64 k2,.slice ra ng rc,.slice pa nq pc] 30);have X2:=SBox.new (w.alloc (.cells #[.string ⟨a.toArray⟩,.int .i64 sq,.string ⟨p.toArray⟩,.string ⟨d.toArray⟩,.int .i64 ct,.int .i64 lv,.bool ac,.slice oa no oc,.int .i64 k0,.int .i64 k1,.int .i64 k2,.slice ra ng rc,.slice pa nq pc] 30)) 27 #[.int .i64 lv,.bool ac,.slice oa no oc,.int .i64 k0,.int .i64 k1,.int .i64 k2,.slice ra ng rc]
 have Y1:=X1.alloc (.cells #[.int .i64 lv,.bool ac,.slice oa no oc,.int .i64 k0,.int .i64 k1,.int .i64 k2,.slice ra ng rc] 27);have B2:=B1.alloc B1.size (.cells #[.int .i64 lv,.bool ac,.slice oa no oc,.int .i64 k0,.int .i64 k1,.int .i64 k2,.slice ra ng rc] 27);rw [show (w.alloc (.cells #[.string ⟨a.toArray⟩,.int .i64 sq,.string ⟨p.toArray⟩,.string ⟨d.toArray⟩,.int .i64 ct,.int .i64 lv,.bool ac,.slice oa no oc,.int .i64 k0,.int .i64 k1,.int .i64 k2,.slice ra ng rc,.slice pa nq pc] 30)).heap.size=w.heap.size+1 by simp] at X2;have g5:=X1.cell 5 _ rfl;have g6:=X1.cell 6 _ rfl;have g7:=X1.cell 7 _ rfl;have g8:=X1.cell 8 _ rfl;have g9:=X1.cell 9 _ rfl;have g10:=X1.cell 10 _ rfl;have g11:=X1.cell 11 _ rfl
 have f0:=Y1.cell 0 _ rfl;have f1:=Y1.cell 1 _ rfl;have f2:=Y1.cell 2 _ rfl;have f3:=Y1.cell 3 _ rfl;have f4:=Y1.cell 4 _ rfl;have f12:=Y1.cell 12 _ rfl;have u0:=X2.cell 0 _ rfl;have u1:=X2.cell 1 _ rfl;have u2:=X2.cell 2 _ rfl;have u3:=X2.cell 3 _ rfl;have u4:=X2.cell 4 _ rfl;have u5:=X2.cell 5 _ rfl;have u6:=X2.cell 6 _ rfl;go_enter Tryz.func36,Tryz.ntmps36
 go_upto_region 2 with fail
 go_cut [64] from 17 to 64 (fun s W=>s=.bool false∧W=((w.alloc (.cells #[.string ⟨a.toArray⟩,.int .i64 sq,.string ⟨p.toArray⟩,.string ⟨d.toArray⟩,.int .i64 ct,.int .i64 lv,.bool ac,.slice oa no oc,.int .i64 k0,.int .i64 k1,.int .i64 k2,.slice ra ng rc,.slice pa nq pc] 30)).alloc (.cells #[.int .i64 lv,.bool ac,.slice oa no oc,.int .i64 k0,.int .i64 k1,.int .i64 k2,.slice ra ng rc] 27)))
 case first =>
  rcases e3 with e3 | e3
  ·have q5:((p.length:Int) != 0)=false:=by rw [e3];rfl
   go_wp2_with fail
   go_meet
   exact ⟨rfl,rfl⟩
  ·have q5:((p.length:Int) != 0)=true:=bne_iff_ne.2 (by omega)
   have q6:((p.length:Int) != 32)=false:=by rw [e3];rfl
   go_wp2_with fail
   go_meet
   exact ⟨rfl,rfl⟩
 case rest =>
  obtain ⟨rfl,rfl⟩:=hcut;clear X1 B1;clear g5 g6 g7 g8 g9 g10 g11;clear f0 f1 f2 f3 f4 f12 u0 u1 u2 u3 u4 u5 u6;generalize ((w.alloc (.cells #[.string ⟨a.toArray⟩,.int .i64 sq,.string ⟨p.toArray⟩,.string ⟨d.toArray⟩,.int .i64 ct,.int .i64 lv,.bool ac,.slice oa no oc,.int .i64 k0,.int .i64 k1,.int .i64 k2,.slice ra ng rc,.slice pa nq pc] 30)).alloc (.cells #[.int .i64 lv,.bool ac,.slice oa no oc,.int .i64 k0,.int .i64 k1,.int .i64 k2,.slice ra ng rc] 27))=V at Y1 X2 B2 ⊢;have f0:=Y1.cell 0 _ rfl;have f1:=Y1.cell 1 _ rfl;have f2:=Y1.cell 2 _ rfl;have f3:=Y1.cell 3 _ rfl;have f4:=Y1.cell 4 _ rfl;have f12:=Y1.cell 12 _ rfl;have u0:=X2.cell 0 _ rfl;have u1:=X2.cell 1 _ rfl;have u2:=X2.cell 2 _ rfl
  have u3:=X2.cell 3 _ rfl;have u4:=X2.cell 4 _ rfl;have u5:=X2.cell 5 _ rfl;have u6:=X2.cell 6 _ rfl;have d4:=rplace14_yes k1 z4;have d5:=rplace14_yes k2 z5;have m1:¬ lv < 1:=by omega
  have m2:¬ 2 < lv:=by omega
  have m3:¬ (32:Int) < (no:Int):=by omega
  have m4:¬ k0 < 0:=by omega
  have m5:¬ 4 < k0:=by omega
  have m6:¬ (128:Int) < (ng:Int):=by omega
  have m7:¬ (256:Int) < (nq:Int):=by omega
  go_wp2_with fail
  refine (d4 _).mono ?_;rintro e w1 ⟨rfl,hw1⟩;obtain rfl:V=w1:=hw1.symm;go_wp2_with fail
  refine (d5 _).mono ?_;rintro e w1 ⟨rfl,hw1⟩;obtain rfl:V=w1:=hw1.symm;go_wp2_with fail
  go_loopw [5] (fun i wr=>∃ k:Nat,k≤no∧i=.int .i64 k∧Hid (∀ j,j < k→txM (o.getD j 0))∧V=wr) (fun i _=>no - (RowKit.intOf i).toNat)
  case atStart=>exact ⟨0,Nat.zero_le _,rfl,(fun j hj=>by omega),rfl⟩
  case round =>
   obtain ⟨k,hk,rfl,HA,hVw⟩:=hrel;cases hVw
   by_cases hlt:k < no
   ·have hk1:k < o.length:=by have:=HNo.out;omega
    have jk:(k:Int) < (no:Int):=by omega
    obtain ⟨bo,oo,rfl,HQ⟩:=HO.out (by omega);have c0:=HQ.out k hk1 _ B2;have HM1:Hid (o.getD k 0∈o):=by show _∈_;rw [getD_at o 0 k hk1];exact List.getElem_mem hk1
    have HA2:Hid (txM (o.getD k 0)→∀ j,j < k+1→txM (o.getD j 0)):=fun hh j hj=>by
     rcases Nat.lt_or_ge j k with hj2 | hj2
     ·exact HA.out j hj2
     ·obtain rfl:j=k:=by omega
      exact hh
    obtain ⟨y,hy⟩:∃ y,o.getD k 0=y:=⟨_,rfl⟩;rw [hy] at c0 HM1 HA2;clear hy
    by_cases h1:txM y
    ·have HF:=Lib.hid (HA2.out h1)
     go_wp2_with fail
     refine (rtxn14_yes y h1 _).mono ?_;rintro e w1 ⟨rfl,rfl⟩;go_wp2_with fail
     refine ⟨⟨k+1,by omega,by first | go_num | simp,HF,by trivial⟩,by simp [RowKit.intOf];omega⟩
    ·have HF:Hid (r=false):=HN1.out y HM1.out h1
     go_wp2_with fail
     refine (rtxn14_no y h1 _).mono ?_;rintro e w1 ⟨rfl,rfl⟩;go_wp2_with fail
     go_ret
     exact ⟨by rw [HF.out];rfl,B2⟩
   ·obtain rfl:k=no:=by omega
    have jk:¬ (k:Int) < (k:Int):=by omega
    have HOall:Hid (∀ n∈o,txM n):=fun n hn=>by
     obtain ⟨j,hj,e⟩:=List.getElem_of_mem hn;have:=HA.out j (by have:=HNo.out;omega);rw [getD_at o 0 j hj,e] at this;exact this
    clear HA;go_wp2_with fail
    go_loopw [7] (fun i wr=>∃ k:Nat,k≤ng∧i=.int .i64 k∧Hid (∀ j (hj:j < g.length),j < k→edM g[j])∧Below V.heap.size V wr) (fun i _=>ng - (RowKit.intOf i).toNat)
    case atStart=>exact ⟨0,Nat.zero_le _,rfl,(fun j _ hj=>by omega),Below.refl _ _⟩
    case round =>
     obtain ⟨m,hm,rfl,HA,hbk⟩:=hrel;have v6:=(X2.below hbk).cell 6 _ rfl
     by_cases hlm:m < ng
     ·have hm1:m < g.length:=by have:=HNg.out;omega
      have jm:(m:Int) < (ng:Int):=by omega
      obtain ⟨bg,og,rfl,HQg⟩:=HR.out (by omega);have c:=HQg.out m hm1 _ (bel_trans B2 hbk);have HM1:Hid (g[m]'hm1∈g):=List.getElem_mem hm1
      have HA2:Hid (edM (g[m]'hm1)→∀ j (hj:j < g.length),j < m+1→edM g[j]):=fun hh j hj hlt=>by
       rcases Nat.lt_or_ge j m with hj2 | hj2
       ·exact HA.out j hj hj2
       ·obtain rfl:j=m:=by omega
        exact hh
      obtain ⟨⟨x0,x1,x2,x3,x4⟩,hx⟩:∃ x,g[m]'hm1=x:=⟨_,rfl⟩;rw [hx] at c HM1 HA2;obtain ⟨s0,s1,s2,s3,s4⟩:=c;clear hx hm1;have XB:=SBox.new wr 32 #[.int .i64 x0,.int .i64 x1,.int .i64 x2,.int .i64 x3,.int .i64 x4];have BB:=hbk.alloc hbk.size (.cells #[.int .i64 x0,.int .i64 x1,.int .i64 x2,.int .i64 x3,.int .i64 x4] 32);have z00:=XB.cell 0 _ rfl;have z11:=XB.cell 1 _ rfl;have z22:=XB.cell 2 _ rfl;have z33:=XB.cell 3 _ rfl;have z44:=XB.cell 4 _ rfl;obtain ⟨e1,HE1⟩:∃ b:Bool,Hid (b=true↔(txM x1∧txM x2)):=⟨decide (txM x1∧txM x2),decide_eq_true_iff⟩;obtain ⟨e2,HE2⟩:∃ b:Bool,Hid (b=true↔(plM x3∧plM x4)):=⟨decide (plM x3∧plM x4),decide_eq_true_iff⟩;go_upto_region 17 with fail
      go_cut [9] from 144 to 151 (fun s W=>s=.bool e1∧W=(wr.alloc (.cells #[.int .i64 x0,.int .i64 x1,.int .i64 x2,.int .i64 x3,.int .i64 x4] 32)))
      case first =>
       by_cases h1:txM x1
       ·by_cases h2:txM x2
        ·have hb:e1=true:=HE1.out.2 ⟨h1,h2⟩
         subst hb;go_wp2_with fail
         refine (rtxn14_yes x1 h1 _).mono ?_;rintro e w1 ⟨rfl,rfl⟩;go_wp2_with fail
         refine (rtxn14_yes x2 h2 _).mono ?_;rintro e w1 ⟨rfl,rfl⟩;go_wp2_with fail
         go_meet
         exact ⟨rfl,rfl⟩
        ·have hb:e1=false:=by
          cases e1 with
          | false=>rfl
          | true=>exact absurd (HE1.out.1 rfl).2 h2
         subst hb;go_wp2_with fail
         refine (rtxn14_yes x1 h1 _).mono ?_;rintro e w1 ⟨rfl,rfl⟩;go_wp2_with fail
         refine (rtxn14_no x2 h2 _).mono ?_;rintro e w1 ⟨rfl,rfl⟩;go_wp2_with fail
         go_meet
         exact ⟨rfl,rfl⟩
       ·have hb:e1=false:=by
         cases e1 with
         | false=>rfl
         | true=>exact absurd (HE1.out.1 rfl).1 h1
        subst hb;go_wp2_with fail
        refine (rtxn14_no x1 h1 _).mono ?_;rintro e w1 ⟨rfl,rfl⟩;go_wp2_with fail
        go_meet
        exact ⟨rfl,rfl⟩
      case rest =>
       obtain ⟨rfl,rfl⟩:=hcut;go_upto_region 18 with fail
       go_cut [10] from 152 to 159 (fun s W=>s=.bool e2∧W=(wr.alloc (.cells #[.int .i64 x0,.int .i64 x1,.int .i64 x2,.int .i64 x3,.int .i64 x4] 32)))
       case first =>
        by_cases h1:plM x3
        ·by_cases h2:plM x4
         ·have hb:e2=true:=HE2.out.2 ⟨h1,h2⟩
          subst hb;go_wp2_with fail
          refine (rplace14_yes x3 h1 _).mono ?_;rintro e w1 ⟨rfl,rfl⟩;go_wp2_with fail
          refine (rplace14_yes x4 h2 _).mono ?_;rintro e w1 ⟨rfl,rfl⟩;go_wp2_with fail
          go_meet
          exact ⟨rfl,rfl⟩
         ·have hb:e2=false:=by
           cases e2 with
           | false=>rfl
           | true=>exact absurd (HE2.out.1 rfl).2 h2
          subst hb;go_wp2_with fail
          refine (rplace14_yes x3 h1 _).mono ?_;rintro e w1 ⟨rfl,rfl⟩;go_wp2_with fail
          refine (rplace14_no x4 h2 _).mono ?_;rintro e w1 ⟨rfl,rfl⟩;go_wp2_with fail
          go_meet
          exact ⟨rfl,rfl⟩
        ·have hb:e2=false:=by
          cases e2 with
          | false=>rfl
          | true=>exact absurd (HE2.out.1 rfl).1 h1
         subst hb;go_wp2_with fail
         refine (rplace14_no x3 h1 _).mono ?_;rintro e w1 ⟨rfl,rfl⟩;go_wp2_with fail
         go_meet
         exact ⟨rfl,rfl⟩
       case rest =>
        obtain ⟨rfl,rfl⟩:=hcut
        by_cases n1:x0 < 1
        ·skip
         have HF:Hid (r=false):=HN2.out _ HM1.out (fun hh=>by have:=hh.1.1;simp only at this;omega);go_wp2_with fail
         go_ret
         exact ⟨by rw [HF.out];rfl,bel_trans B2 BB⟩
        ·by_cases n2:3 < x0
         ·skip
          have HF:Hid (r=false):=HN2.out _ HM1.out (fun hh=>by have:=hh.1.2;simp only at this;omega);go_wp2_with fail
          go_ret
          exact ⟨by rw [HF.out];rfl,bel_trans B2 BB⟩
         ·cases e1 with
          | false =>
            have HF:Hid (r=false):=HN2.out _ HM1.out (fun hh=>by have:=HE1.out.2 hh.2.1;cases this);go_wp2_with fail
            go_ret
            exact ⟨by rw [HF.out];rfl,bel_trans B2 BB⟩
          | true =>
            cases e2 with
            | false =>
              have HF:Hid (r=false):=HN2.out _ HM1.out (fun hh=>by have:=HE2.out.2 hh.2.2;cases this);go_wp2_with fail
              go_ret
              exact ⟨by rw [HF.out];rfl,bel_trans B2 BB⟩
            | true =>
              have HF:=Lib.hid (HA2.out ⟨⟨by show 1≤x0;omega,by show x0≤3;omega⟩,HE1.out.1 rfl,HE2.out.1 rfl⟩);go_wp2_with fail
              go_roundw
              case measure=>simp [RowKit.intOf];omega
              case rel =>
               first
               | exact ⟨m+1,by omega,by first | go_num | simp,HF,BB⟩
               | ((repeat apply Exists.intro);exact ⟨⟨m+1,by omega,by first | go_num | simp,HF,BB⟩,rfl⟩)
     ·obtain rfl:m=ng:=by omega
      have jm:¬ (m:Int) < (m:Int):=by omega
      have HGall:Hid (∀ e∈g,edM e):=fun e he=>by
       obtain ⟨j,hj,rfl⟩:=List.getElem_of_mem he;exact HA.out j hj (by have:=HNg.out;omega)
      clear HA;obtain ⟨V2,rfl⟩:∃ V2,V2=wr:=⟨_,rfl⟩;have Y2:=Y1.below hbk;have B3:=bel_trans B2 hbk;have f12':=Y2.cell 12 _ rfl;go_wp2_with fail
      go_loopw [11] (fun i wr=>∃ k:Nat,k≤nq∧i=.int .i64 k∧Hid (∀ j (hj:j < q.length),j < k→pfM q[j])∧Below V2.heap.size V2 wr) (fun i _=>nq - (RowKit.intOf i).toNat)
      case atStart=>exact ⟨0,Nat.zero_le _,rfl,(fun j _ hj=>by omega),Below.refl _ _⟩
      case round =>
       obtain ⟨m,hm,rfl,HA,hbk⟩:=hrel;have f12:=(Y2.below hbk).cell 12 _ rfl
       by_cases hlm:m < nq
       ·have hm1:m < q.length:=by have:=HNq.out;omega
        have jm:(m:Int) < (nq:Int):=by omega
        obtain ⟨bp,op,rfl,u,hu,C1⟩:=HP.out m hm1;have c:=C1 _ (bel_trans B3 hbk);have HM1:Hid (q[m]'hm1∈q):=List.getElem_mem hm1
        have HA2:Hid (pfM (q[m]'hm1)→∀ j (hj:j < q.length),j < m+1→pfM q[j]):=fun hh j hj hlt=>by
         rcases Nat.lt_or_ge j m with hj2 | hj2
         ·exact HA.out j hj hj2
         ·obtain rfl:j=m:=by omega
          exact hh
        obtain ⟨⟨y0,⟨y1,y2,y3,y4⟩,T⟩,hx⟩:∃ x,q[m]'hm1=x:=⟨_,rfl⟩;rw [hx] at c HM1 HA2 hu;simp only at c hu;obtain ⟨s0,s1,s2,s3,s4,s5⟩:=c;obtain ⟨ta,tc,rfl,t1,t2,t3,HT⟩:=hu.some_at;obtain ⟨nt,hnt⟩:∃ x,T.length=x:=⟨_,rfl⟩;have HNt:=Lib.hid hnt;rw [hnt] at t1 t3 s5;clear hx hm1 C1 hu hnt;have XB:=SBox.new wr 55 #[.int .i64 y0,.int .i64 y1,.int .i64 y2,.string ⟨y3.toArray⟩,.string ⟨y4.toArray⟩,.slice ta nt tc];have BB:=hbk.alloc hbk.size (.cells #[.int .i64 y0,.int .i64 y1,.int .i64 y2,.string ⟨y3.toArray⟩,.string ⟨y4.toArray⟩,.slice ta nt tc] 55);have z00:=XB.cell 0 _ rfl;have z11:=XB.cell 1 _ rfl;have z22:=XB.cell 2 _ rfl;have z33:=XB.cell 3 _ rfl;have z44:=XB.cell 4 _ rfl;have z55:=XB.cell 5 _ rfl
        obtain ⟨e3,HE3⟩:∃ b:Bool,Hid (b=true↔(plM y0∧mayE (y1,y2,y3,y4))):=⟨decide (plM y0∧mayE (y1,y2,y3,y4)),decide_eq_true_iff⟩;go_upto_region 25 with fail
        go_cut [13] from 188 to 195 (fun s W=>s=.bool e3∧Below V2.heap.size V2 W∧SBox W wr.heap.size 55 #[.int .i64 y0,.int .i64 y1,.int .i64 y2,.string ⟨y3.toArray⟩,.string ⟨y4.toArray⟩,.slice ta nt tc])
        case first =>
         by_cases h1:plM y0
         ·have D2:=rmay_any y1 y2 y3 y4 (wr.alloc (.cells #[.int .i64 y0,.int .i64 y1,.int .i64 y2,.string ⟨y3.toArray⟩,.string ⟨y4.toArray⟩,.slice ta nt tc] 55))
          by_cases h2:mayE (y1,y2,y3,y4)
          ·rw [decide_eq_true h2] at D2
           have hb:e3=true:=HE3.out.2 ⟨h1,h2⟩;subst hb;go_wp2_with fail
           refine (rplace14_yes y0 h1 _).mono ?_;rintro e w1 ⟨rfl,rfl⟩;go_wp2_with fail
           refine D2.mono ?_;rintro e w1 ⟨rfl,b1⟩;go_wp2_with fail
           go_meet
           exact ⟨rfl,bel_trans BB b1,XB.below b1⟩
          ·rw [decide_eq_false h2] at D2
           have hb:e3=false:=by
            cases e3 with
            | false=>rfl
            | true=>exact absurd (HE3.out.1 rfl).2 h2
           subst hb;go_wp2_with fail
           refine (rplace14_yes y0 h1 _).mono ?_;rintro e w1 ⟨rfl,rfl⟩;go_wp2_with fail
           refine D2.mono ?_;rintro e w1 ⟨rfl,b1⟩;go_wp2_with fail
           go_meet
           exact ⟨rfl,bel_trans BB b1,XB.below b1⟩
         ·have hb:e3=false:=by
           cases e3 with
           | false=>rfl
           | true=>exact absurd (HE3.out.1 rfl).1 h1
          subst hb;go_wp2_with fail
          refine (rplace14_no y0 h1 _).mono ?_;rintro e w1 ⟨rfl,rfl⟩;go_wp2_with fail
          go_meet
          exact ⟨rfl,BB,XB⟩
        case rest =>
         obtain ⟨rfl,BC,XC⟩:=hcut;have z5':=XC.cell 5 _ rfl;cases e3 with
         | false =>
           have HF:Hid (r=false):=HN3.out _ HM1.out (fun hh=>by have:=HE3.out.2 hh.1;cases this);go_wp2_with fail
           go_ret
           exact ⟨by rw [HF.out];rfl,bel_trans B3 BC⟩
         | true =>
           by_cases n1:12 < nt
           ·have q1':(12:Int) < (nt:Int):=by omega
            have HF:Hid (r=false):=HN3.out _ HM1.out (fun hh=>by have:=hh.2.1;simp only at this;rw [HNt.out] at this;omega);go_wp2_with fail
            go_ret
            exact ⟨by rw [HF.out];rfl,bel_trans B3 BC⟩
           ·have q1':¬ (12:Int) < (nt:Int):=by omega
            have HPM:Hid (plM y0∧mayE (y1,y2,y3,y4)):=HE3.out.1 rfl;have HTj:Hid (∀ j,j < T.length→j < nt):=fun j hj=>by rw [HNt.out] at hj;exact hj
            have HTl:Hid (T.length≤12):=by show _≤_;rw [HNt.out];omega
            go_wp2_with fail
            go_loopw [14] (fun i wq=>∃ k:Nat,k≤nt∧i=.int .i64 k∧Hid (∀ j (hj:j < T.length),j < k→T[j].length=32)∧wc=wq) (fun i _=>nt - (RowKit.intOf i).toNat)
            case atStart=>exact ⟨0,Nat.zero_le _,rfl,(fun j _ hj=>by omega),rfl⟩
            case round =>
             obtain ⟨t,ht,rfl,HB,rfl⟩:=hrel
             by_cases hlt:t < nt
             ·have ht1:t < T.length:=by have:=HNt.out;omega
              have jt:(t:Int) < (nt:Int):=by omega
              obtain ⟨bt,ot,rfl,hbt,ct'⟩:=HT.out t ht1;have ctc:=((bel_trans B3 BC).cell (p:=⟨bt,ot+t,none⟩) hbt).trans ct'
              have HBn:Hid ((T[t]'ht1).length=32→∀ j (hj:j < T.length),j < t+1→T[j].length=32):=fun hh j hj hlt=>by
               rcases Nat.lt_or_ge j t with hj2 | hj2
               ·exact HB.out j hj hj2
               ·obtain rfl:j=t:=by omega
                exact hh
              have HTm:Hid ((T[t]'ht1)∈T):=List.getElem_mem ht1;obtain ⟨S,hS⟩:∃ x,T[t]'ht1=x:=⟨_,rfl⟩;rw [hS] at ctc HBn HTm;clear hS ct' ht1
              by_cases n3:S.length=32
              ·have q3':((S.length:Int) != 32)=false:=by rw [n3];rfl
               have HF:=Lib.hid (HBn.out n3);clear n3;go_wp2_with fail
               refine ⟨⟨t+1,by omega,by first | go_num | simp,HF,by trivial⟩,by simp [RowKit.intOf];omega⟩
              ·have q3':((S.length:Int) != 32)=true:=bne_iff_ne.2 (by omega)
               have HF:Hid (r=false):=HN3.out _ HM1.out (fun hh=>n3 (hh.2.2 _ HTm.out));go_wp2_with fail
               go_ret
               exact ⟨by rw [HF.out];rfl,bel_trans B3 BC⟩
             ·obtain rfl:t=nt:=by omega
              have jt:¬ (t:Int) < (t:Int):=by omega
              have HF:=Lib.hid (HA2.out ⟨HPM.out,HTl.out,fun x hx=>by
               obtain ⟨j,hj,rfl⟩:=List.getElem_of_mem hx;exact HB.out j hj (HTj.out j hj)⟩)
              go_wp2_with fail
              go_roundw
              case measure=>simp [RowKit.intOf];omega
              case rel =>
               first
               | exact ⟨m+1,by omega,by first | go_num | simp,HF,BC⟩
               | ((repeat apply Exists.intro);exact ⟨⟨m+1,by omega,by first | go_num | simp,HF,BC⟩,rfl⟩)
       ·obtain rfl:m=nq:=by omega
        have jm:¬ (m:Int) < (m:Int):=by omega
        have HF:Hid (r=true):=HAll.out HOall.out HGall.out (fun e he=>by
         obtain ⟨j,hj,rfl⟩:=List.getElem_of_mem he;exact HA.out j hj (by have:=HNq.out;omega))
        go_wp2_with fail
        go_ret
        exact ⟨by rw [HF.out];rfl,bel_trans B3 hbk⟩
end Go.Proofs.YthamoeekiglphaaGreatDoor
