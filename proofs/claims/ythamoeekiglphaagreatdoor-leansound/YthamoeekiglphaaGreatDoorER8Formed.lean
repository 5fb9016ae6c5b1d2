/-
  What cartoucheref08.Formed answers.
-/
import Derived.Test.YthamoeekiglphaaGreatDoorEL0d
namespace Go.Proofs.YthamoeekiglphaaGreatDoor
set_option maxRecDepth 100000
open Go.RowKit
set_option linter.unusedVariables false
attribute [local go_sem] ba_size
theorem formed_big (h:List Ev) (hl:256 < h.length):formedL h=(0,4):=by unfold formedL;rw [if_pos hl]
theorem formed_at (h:List Ev) (hl:¬ 256 < h.length) (k c:Nat) (hk:k < h.length) (ha:∀ j,j < k→wrongAt h j=false) (hs:formStep h k=c) (hc:c≠0):formedL h=(k,c):=by
 unfold formedL;rw [if_neg hl,(fi_some _ _ k).2 ⟨hk,decide_eq_true (by rw [hs];exact hc),ha⟩];simp only;rw [hs]
theorem formed_open (h:List Ev) (hl:¬ 256 < h.length) (ha:∀ j,j < h.length→wrongAt h j=false) (k:Nat) (hk:k < h.length) (ho:openAt h k=true):formedL h=(h.length,9):=by
 unfold formedL;rw [if_neg hl,(fi_none _ _).2 ha];simp only;rw [if_neg (fun hh=>by have:=(fi_none _ _).1 hh k hk;rw [ho] at this;cases this)]
theorem formed_fine (h:List Ev) (hl:¬ 256 < h.length) (ha:∀ j,j < h.length→wrongAt h j=false) (ho:∀ j,j < h.length→openAt h j=false):formedL h=(h.length,0):=by
 unfold formedL;rw [if_neg hl,(fi_none _ _).2 ha];simp only;rw [if_pos ((fi_none _ _).2 ho)]
set_option maxHeartbeats 8000000 in
theorem rformed_any (h:List Ev) (v:Value) (w:World) (hT:IsEvs w v h) :
 Calls Tryz.prog 19 #[v] w fun e w'=>e=.returned (.tuple #[.int .i64 ((formedL h).1:Int),.int .i64 ((formedL h).2:Int)])∧Below w.heap.size w w':=by
 have C1:=fun (t:Int) (m:Nat) (hm:m≤h.length) W hW=>rfirst_any h v W (hT.below (w':=W) hW) t m hm
 have C2:=fun (t:Int) (m:Nat) (hm:m≤h.length) W hW=>rend_any h v W (hT.below (w':=W) hW) t m hm
 have C3:=fun (a b:List UInt8) W hW=>rwriter_any h v W (hT.below (w':=W) hW) a b
 obtain ⟨a,cap,rfl,h1,h2,h3,HC⟩:=hT.reads;obtain ⟨n,hn⟩:∃ n,h.length=n:=⟨_,rfl⟩;have HN:Hid (h.length=n):=hn;simp only [hn] at C1 C2 C3;rw [hn] at h1 h3 ⊢;clear hT hn
 by_cases hbig:256 < n
 ·rw [formed_big h (by have:=HN.out;omega)]
  have j:(256:Int) < (n:Int):=by omega
  go_enter Tryz.func19,Tryz.ntmps19
  go_wp2_with fail
  go_ret2
  exact ⟨rfl,Below.refl _ _⟩
 have j:¬ (256:Int) < (n:Int):=by omega
 have HL:Hid (¬ 256 < h.length):=by show ¬ _;have:=HN.out;omega
 go_enter Tryz.func19,Tryz.ntmps19
 go_wp2_with fail
 go_loopw [4] (fun i wr=>∃ k:Nat,k≤n∧i=.int .i64 k∧Hid (∀ j,j < k→wrongAt h j=false)∧Below w.heap.size w wr) (fun i _=>n - (RowKit.intOf i).toNat)
 case atStart=>exact ⟨0,Nat.zero_le _,rfl,(fun j hj=>by omega),Below.refl _ _⟩
 case round =>
  obtain ⟨k,hk,rfl,HA,hbw⟩:=hrel;obtain ⟨wo,rfl⟩:∃ x,x=wr:=⟨_,rfl⟩
  by_cases hlt:k < n
  ·have hk1:k < h.length:=by have:=HN.out;omega
   obtain ⟨bb,off,rfl,HQ⟩:=HC.out (by omega);obtain ⟨c0,c1,c2,c3⟩:=HQ.out k hk1 _ hbw;obtain ⟨⟨x0,x1,x2,x3⟩,hx⟩:∃ x,ev h k=x:=⟨_,rfl⟩;have HX:Hid (ev h k=(x0,x1,x2,x3)):=hx;rw [hx] at c0 c1 c2 c3;simp only at c0 c1 c2 c3;clear hx
   have HFS:Hid (∀ c,(if ¬ mayE (x0,x1,x2,x3) then 1 else if x0=1 then (if fstL h x1 k=none then 0 else 8) else if fstL h x1 k=none then 7 else if endL h x1 k≠none then 9 else if x0=3∧fi (sameVal h x3) k≠none then 8 else if x0=2∧x3≠[]∧writerL h x2 x3=none then 7 else 0)=c→formStep h k=c):=by
    intro c hc;unfold formStep;rw [HX.out];exact hc
   have HBad:Hid (∀ c,c≠0→formStep h k=c→formedL h=(k,c)):=fun c hc hs=>formed_at h HL.out k c hk1 HA.out hs hc
   have HGo:Hid (formStep h k=0→∀ j,j < k+1→wrongAt h j=false):=fun hs=>upto_next _ k HA.out (decide_eq_false (fun hh=>hh hs))
   have D1:=C1 x1 k (by omega);have D2:=C2 x1 k (by omega);have D3:=C3 x2 x3;have X0:SBox (wo.alloc (.cells #[.int .i64 x0,.int .i64 x1,.string ⟨x2.toArray⟩,.string ⟨x3.toArray⟩] 53)) wo.heap.size 53 #[.int .i64 x0,.int .i64 x1,.string ⟨x2.toArray⟩,.string ⟨x3.toArray⟩]:=SBox.new wo 53 #[.int .i64 x0,.int .i64 x1,.string ⟨x2.toArray⟩,.string ⟨x3.toArray⟩];have B0:=hbw.alloc hbw.size (.cells #[.int .i64 x0,.int .i64 x1,.string ⟨x2.toArray⟩,.string ⟨x3.toArray⟩] 53);have CM:Hid (∀ W,Calls Tryz.prog 31 #[.agg #[.int .i64 x0,.int .i64 x1,.string ⟨x2.toArray⟩,.string ⟨x3.toArray⟩]] W fun e w'=>e=.returned (.bool (decide (mayE (x0,x1,x2,x3))))∧Below W.heap.size W w'):=fun W=>rmay_any x0 x1 x2 x3 W
   by_cases hm:mayE (x0,x1,x2,x3)
   ·rw [decide_eq_true hm] at CM
    rcases hf:fstL h x1 k with _ | f
    ·rw [hf] at D1
     simp only [oI] at D1
     by_cases k1:x0=1
     ·have e1:(x0==1)=true:=by rw [k1];rfl
      have HA':Hid (∀ j,j < k+1→wrongAt h j=false):=HGo.out (HFS.out _ (by rw [if_neg (fun hh=>hh hm),if_pos k1,if_pos hf]));clear k1;go_wp2_with fail
      refine (CM.out _).mono ?_;rintro e w1 ⟨rfl,b1⟩;have X1:=X0.below b1;have B1:=bel_trans B0 b1;have f0:=X1.cell 0 _ rfl;have f1:=X1.cell 1 _ rfl;have f2:=X1.cell 2 _ rfl;have f3:=X1.cell 3 _ rfl;go_wp2_with fail
      refine (D1 _ B1).mono ?_;rintro e w2 ⟨rfl,b2⟩;have X2:=X1.below b2;have B2:=bel_trans B1 b2;clear f0 f1 f2 f3;have f0:=X2.cell 0 _ rfl;have f1:=X2.cell 1 _ rfl;have f2:=X2.cell 2 _ rfl;have f3:=X2.cell 3 _ rfl;go_wp2_with fail
      refine ⟨?relG1,?meaG1⟩
      case relG1=>exact ⟨k+1,by omega,by first | go_num | simp,HA',B2⟩
      case meaG1=>simp [RowKit.intOf];omega
     ·have e1:(x0==1)=false:=beq_eq_false_iff_ne.2 k1
      have HR:Hid (formedL h=(k,7)):=HBad.out 7 (by omega) (HFS.out _ (by rw [if_neg (fun hh=>hh hm),if_neg k1,if_pos hf]));go_wp2_with fail
      refine (CM.out _).mono ?_;rintro e w1 ⟨rfl,b1⟩;have X1:=X0.below b1;have B1:=bel_trans B0 b1;have f0:=X1.cell 0 _ rfl;have f1:=X1.cell 1 _ rfl;have f2:=X1.cell 2 _ rfl;have f3:=X1.cell 3 _ rfl;go_wp2_with fail
      refine (D1 _ B1).mono ?_;rintro e w2 ⟨rfl,b2⟩;have X2:=X1.below b2;have B2:=bel_trans B1 b2;clear f0 f1 f2 f3;have f0:=X2.cell 0 _ rfl;have f1:=X2.cell 1 _ rfl;have f2:=X2.cell 2 _ rfl;have f3:=X2.cell 3 _ rfl;go_wp2_with fail
      go_ret2
      exact ⟨by rw [HR.out];rfl,B2⟩
    ·have hfn:¬ fstL h x1 k=none:=by rw [hf];simp
     rw [hf] at D1;simp only [oI] at D1;have jf:(0:Int)≤(f:Int):=by omega
     by_cases k1:x0=1
     ·have e1:(x0==1)=true:=by rw [k1];rfl
      have HR:Hid (formedL h=(k,8)):=HBad.out 8 (by omega) (HFS.out _ (by rw [if_neg (fun hh=>hh hm),if_pos k1,if_neg hfn]));clear k1;go_wp2_with fail
      refine (CM.out _).mono ?_;rintro e w1 ⟨rfl,b1⟩;have X1:=X0.below b1;have B1:=bel_trans B0 b1;have f0:=X1.cell 0 _ rfl;have f1:=X1.cell 1 _ rfl;have f2:=X1.cell 2 _ rfl;have f3:=X1.cell 3 _ rfl;go_wp2_with fail
      refine (D1 _ B1).mono ?_;rintro e w2 ⟨rfl,b2⟩;have X2:=X1.below b2;have B2:=bel_trans B1 b2;clear f0 f1 f2 f3;have f0:=X2.cell 0 _ rfl;have f1:=X2.cell 1 _ rfl;have f2:=X2.cell 2 _ rfl;have f3:=X2.cell 3 _ rfl;go_wp2_with fail
      go_ret2
      exact ⟨by rw [HR.out];rfl,B2⟩
     ·have e1:(x0==1)=false:=beq_eq_false_iff_ne.2 k1
      rcases he:endL h x1 k with _ | g
      ·rw [he] at D2
       simp only [oI] at D2;have hen:¬ endL h x1 k≠none:=by rw [he];simp
       by_cases k3:x0=3
       ·have e3:(x0==3)=true:=by rw [k3];rfl
        have e2:(x0==2)=false:=by rw [k3];rfl
        have k2:¬ x0=2:=by omega
        have K3:Hid (x0=3):=k3;clear k3;go_wp2_with fail
        refine (CM.out _).mono ?_;rintro e w1 ⟨rfl,b1⟩;have X1:=X0.below b1;have B1:=bel_trans B0 b1;have f0:=X1.cell 0 _ rfl;have f1:=X1.cell 1 _ rfl;have f2:=X1.cell 2 _ rfl;have f3:=X1.cell 3 _ rfl;go_wp2_with fail
        refine (D1 _ B1).mono ?_;rintro e w2 ⟨rfl,b2⟩;have X2:=X1.below b2;have B2:=bel_trans B1 b2;clear f0 f1 f2 f3;have f0:=X2.cell 0 _ rfl;have f1:=X2.cell 1 _ rfl;have f2:=X2.cell 2 _ rfl;have f3:=X2.cell 3 _ rfl;go_wp2_with fail
        refine (D2 _ B2).mono ?_;rintro e w3 ⟨rfl,b3⟩;have X3:=X2.below b3;have B3:=bel_trans B2 b3;clear f0 f1 f2 f3;have f0:=X3.cell 0 _ rfl;have f1:=X3.cell 1 _ rfl;have f2:=X3.cell 2 _ rfl;have f3:=X3.cell 3 _ rfl;go_wp2_with fail
        go_loopw [8] (fun i wq=>∃ q:Nat,q≤k∧i=.int .i64 q∧Hid (∀ j,j < q→sameVal h x3 j=false)∧Below w3.heap.size w3 wq) (fun i _=>k - (RowKit.intOf i).toNat)
        case atStart=>exact ⟨0,Nat.zero_le _,rfl,(fun j hj=>by omega),Below.refl _ _⟩
        case round =>
         obtain ⟨q,hq,rfl,HI,hbq⟩:=hrel;have Bq:=bel_trans B3 hbq;have Xq:=X3.below hbq;have fq0:=Xq.cell 0 _ rfl;have fq1:=Xq.cell 1 _ rfl;have fq3:=Xq.cell 3 _ rfl
         by_cases hql:q < k
         ·have hq1:q < h.length:=by omega
          have hqn:q < n:=by omega
          obtain ⟨m0,_,_,m3⟩:=HQ.out q hq1 _ Bq;obtain ⟨⟨y0,y1,y2,y3⟩,hy⟩:∃ x,ev h q=x:=⟨_,rfl⟩;have HY:Hid (ev h q=(y0,y1,y2,y3)):=hy;rw [hy] at m0 m3;simp only at m0 m3;clear hy
          by_cases d:y0=3
          ·have i1:(y0==3)=true:=by rw [d];rfl
           by_cases d4:y3=x3
           ·have i4:(y3==x3)=true:=by rw [d4];exact beq_self_eq_true _
            have HR:Hid (formedL h=(k,8)):=HBad.out 8 (by omega) (HFS.out _ (by rw [if_neg (fun hh=>hh hm),if_neg k1,if_neg hfn,if_neg hen,if_pos ⟨K3.out,fun hh=>by have:=(fi_none _ _).1 hh q hql;unfold sameVal at this;rw [HY.out] at this;exact of_decide_eq_false this ⟨d,d4⟩⟩]));clear d d4;go_wp2_with fail
            go_quiet (fail)
            go_wp2_with fail
            go_ret2
            exact ⟨by rw [HR.out];rfl,below_drewN Bq _⟩
           ·have i4:(y3==x3)=false:=beq_eq_false_iff_ne.2 d4
            have HI':Hid (∀ j,j < q+1→sameVal h x3 j=false):=upto_next _ q HI.out (by show decide _=false;rw [HY.out];exact decide_eq_false (fun hh=>d4 hh.2));clear d;go_wp2_with fail
            go_quiet (fail)
            go_wp2_with fail
            refine ⟨?relI1,?meaI1⟩
            case relI1=>exact ⟨q+1,by omega,by first | go_num | simp,HI',below_drewN hbq _⟩
            case meaI1=>simp [RowKit.intOf];omega
          ·have i1:(y0==3)=false:=beq_eq_false_iff_ne.2 d
           have HI':Hid (∀ j,j < q+1→sameVal h x3 j=false):=upto_next _ q HI.out (by show decide _=false;rw [HY.out];exact decide_eq_false (fun hh=>d hh.1));go_wp2_with fail
           go_quiet (fail)
           go_wp2_with fail
           refine ⟨?relI2,?meaI2⟩
           case relI2=>exact ⟨q+1,by omega,by first | go_num | simp,HI',below_drewN hbq _⟩
           case meaI2=>simp [RowKit.intOf];omega
         ·obtain rfl:q=k:=by omega
          have HA':Hid (∀ j,j < q+1→wrongAt h j=false):=HGo.out (HFS.out _ (by rw [if_neg (fun hh=>hh hm),if_neg k1,if_neg hfn,if_neg hen,if_neg (fun hh=>hh.2 ((fi_none _ _).2 HI.out)),if_neg (fun hh=>k2 hh.1)]));go_wp2_with fail
          refine ⟨?relI3,?meaI3⟩
          case relI3=>exact ⟨q+1,by omega,by first | go_num | simp,HA',Bq⟩
          case meaI3=>simp [RowKit.intOf];omega
       ·have e3:(x0==3)=false:=beq_eq_false_iff_ne.2 k3
        have n3:¬ (x0=3∧fi (sameVal h x3) k≠none):=fun hh=>k3 hh.1
        by_cases k2:x0=2
        ·have e2:(x0==2)=true:=by rw [k2];rfl
         by_cases hv:x3=[]
         ·subst hv
          have HA':Hid (∀ j,j < k+1→wrongAt h j=false):=HGo.out (HFS.out _ (by rw [if_neg (fun hh=>hh hm),if_neg k1,if_neg hfn,if_neg hen,if_neg n3,if_neg (fun hh=>hh.2.1 rfl)]));clear k2;go_wp2_with fail
          refine (CM.out _).mono ?_;rintro e w1 ⟨rfl,b1⟩;have X1:=X0.below b1;have B1:=bel_trans B0 b1;have f0:=X1.cell 0 _ rfl;have f1:=X1.cell 1 _ rfl;have f2:=X1.cell 2 _ rfl;have f3:=X1.cell 3 _ rfl;go_wp2_with fail
          refine (D1 _ B1).mono ?_;rintro e w2 ⟨rfl,b2⟩;have X2:=X1.below b2;have B2:=bel_trans B1 b2;clear f0 f1 f2 f3;have f0:=X2.cell 0 _ rfl;have f1:=X2.cell 1 _ rfl;have f2:=X2.cell 2 _ rfl;have f3:=X2.cell 3 _ rfl;go_wp2_with fail
          refine (D2 _ B2).mono ?_;rintro e w3 ⟨rfl,b3⟩;have X3:=X2.below b3;have B3:=bel_trans B2 b3;clear f0 f1 f2 f3;have f0:=X3.cell 0 _ rfl;have f1:=X3.cell 1 _ rfl;have f2:=X3.cell 2 _ rfl;have f3:=X3.cell 3 _ rfl;go_wp2_with fail
          refine ⟨?relG2,?meaG2⟩
          case relG2=>exact ⟨k+1,by omega,by first | go_num | simp,HA',B3⟩
          case meaG2=>simp [RowKit.intOf];omega
         ·have nv:=ne_nil7 x3 hv
          rcases hw:writerL h x2 x3 with _ | u
          ·rw [hw] at D3
           simp only [oI] at D3;have HR:Hid (formedL h=(k,7)):=HBad.out 7 (by omega) (HFS.out _ (by rw [if_neg (fun hh=>hh hm),if_neg k1,if_neg hfn,if_neg hen,if_neg n3,if_pos ⟨k2,hv,hw⟩]));clear k2;go_wp2_with fail
           refine (CM.out _).mono ?_;rintro e w1 ⟨rfl,b1⟩;have X1:=X0.below b1;have B1:=bel_trans B0 b1;have f0:=X1.cell 0 _ rfl;have f1:=X1.cell 1 _ rfl;have f2:=X1.cell 2 _ rfl;have f3:=X1.cell 3 _ rfl;go_wp2_with fail
           refine (D1 _ B1).mono ?_;rintro e w2 ⟨rfl,b2⟩;have X2:=X1.below b2;have B2:=bel_trans B1 b2;clear f0 f1 f2 f3;have f0:=X2.cell 0 _ rfl;have f1:=X2.cell 1 _ rfl;have f2:=X2.cell 2 _ rfl;have f3:=X2.cell 3 _ rfl;go_wp2_with fail
           refine (D2 _ B2).mono ?_;rintro e w3 ⟨rfl,b3⟩;have X3:=X2.below b3;have B3:=bel_trans B2 b3;clear f0 f1 f2 f3;have f0:=X3.cell 0 _ rfl;have f1:=X3.cell 1 _ rfl;have f2:=X3.cell 2 _ rfl;have f3:=X3.cell 3 _ rfl;go_wp2_with fail
           refine (D3 _ B3).mono ?_;rintro e w4 ⟨rfl,b4⟩;have X4:=X3.below b4;have B4:=bel_trans B3 b4;clear f0 f1 f2 f3;have f0:=X4.cell 0 _ rfl;have f1:=X4.cell 1 _ rfl;have f2:=X4.cell 2 _ rfl;have f3:=X4.cell 3 _ rfl;go_wp2_with fail
           go_ret2
           exact ⟨by rw [HR.out];rfl,B4⟩
          ·rw [hw] at D3
           simp only [oI] at D3;have ju:¬ (u:Int) < 0:=by omega
           have HA':Hid (∀ j,j < k+1→wrongAt h j=false):=HGo.out (HFS.out _ (by rw [if_neg (fun hh=>hh hm),if_neg k1,if_neg hfn,if_neg hen,if_neg n3,if_neg (fun hh=>by have:=hh.2.2;rw [hw] at this;cases this)]));clear k2;go_wp2_with fail
           refine (CM.out _).mono ?_;rintro e w1 ⟨rfl,b1⟩;have X1:=X0.below b1;have B1:=bel_trans B0 b1;have f0:=X1.cell 0 _ rfl;have f1:=X1.cell 1 _ rfl;have f2:=X1.cell 2 _ rfl;have f3:=X1.cell 3 _ rfl;go_wp2_with fail
           refine (D1 _ B1).mono ?_;rintro e w2 ⟨rfl,b2⟩;have X2:=X1.below b2;have B2:=bel_trans B1 b2;clear f0 f1 f2 f3;have f0:=X2.cell 0 _ rfl;have f1:=X2.cell 1 _ rfl;have f2:=X2.cell 2 _ rfl;have f3:=X2.cell 3 _ rfl;go_wp2_with fail
           refine (D2 _ B2).mono ?_;rintro e w3 ⟨rfl,b3⟩;have X3:=X2.below b3;have B3:=bel_trans B2 b3;clear f0 f1 f2 f3;have f0:=X3.cell 0 _ rfl;have f1:=X3.cell 1 _ rfl;have f2:=X3.cell 2 _ rfl;have f3:=X3.cell 3 _ rfl;go_wp2_with fail
           refine (D3 _ B3).mono ?_;rintro e w4 ⟨rfl,b4⟩;have X4:=X3.below b4;have B4:=bel_trans B3 b4;clear f0 f1 f2 f3;have f0:=X4.cell 0 _ rfl;have f1:=X4.cell 1 _ rfl;have f2:=X4.cell 2 _ rfl;have f3:=X4.cell 3 _ rfl;go_wp2_with fail
           refine ⟨?relG3,?meaG3⟩
           case relG3=>exact ⟨k+1,by omega,by first | go_num | simp,HA',B4⟩
           case meaG3=>simp [RowKit.intOf];omega
        ·have e2:(x0==2)=false:=beq_eq_false_iff_ne.2 k2
         have HA':Hid (∀ j,j < k+1→wrongAt h j=false):=HGo.out (HFS.out _ (by rw [if_neg (fun hh=>hh hm),if_neg k1,if_neg hfn,if_neg hen,if_neg n3,if_neg (fun hh=>k2 hh.1)]));go_wp2_with fail
         refine (CM.out _).mono ?_;rintro e w1 ⟨rfl,b1⟩;have X1:=X0.below b1;have B1:=bel_trans B0 b1;have f0:=X1.cell 0 _ rfl;have f1:=X1.cell 1 _ rfl;have f2:=X1.cell 2 _ rfl;have f3:=X1.cell 3 _ rfl;go_wp2_with fail
         refine (D1 _ B1).mono ?_;rintro e w2 ⟨rfl,b2⟩;have X2:=X1.below b2;have B2:=bel_trans B1 b2;clear f0 f1 f2 f3;have f0:=X2.cell 0 _ rfl;have f1:=X2.cell 1 _ rfl;have f2:=X2.cell 2 _ rfl;have f3:=X2.cell 3 _ rfl;go_wp2_with fail
         refine (D2 _ B2).mono ?_;rintro e w3 ⟨rfl,b3⟩;have X3:=X2.below b3;have B3:=bel_trans B2 b3;clear f0 f1 f2 f3;have f0:=X3.cell 0 _ rfl;have f1:=X3.cell 1 _ rfl;have f2:=X3.cell 2 _ rfl;have f3:=X3.cell 3 _ rfl;go_wp2_with fail
         refine ⟨?relG4,?meaG4⟩
         case relG4=>exact ⟨k+1,by omega,by first | go_num | simp,HA',B3⟩
         case meaG4=>simp [RowKit.intOf];omega
      ·rw [he] at D2
       simp only [oI] at D2;have jg:(0:Int)≤(g:Int):=by omega
       have hen:endL h x1 k≠none:=by rw [he];simp
       have HR:Hid (formedL h=(k,9)):=HBad.out 9 (by omega) (HFS.out _ (by rw [if_neg (fun hh=>hh hm),if_neg k1,if_neg hfn,if_pos hen]));go_wp2_with fail
       refine (CM.out _).mono ?_;rintro e w1 ⟨rfl,b1⟩;have X1:=X0.below b1;have B1:=bel_trans B0 b1;have f0:=X1.cell 0 _ rfl;have f1:=X1.cell 1 _ rfl;have f2:=X1.cell 2 _ rfl;have f3:=X1.cell 3 _ rfl;go_wp2_with fail
       refine (D1 _ B1).mono ?_;rintro e w2 ⟨rfl,b2⟩;have X2:=X1.below b2;have B2:=bel_trans B1 b2;clear f0 f1 f2 f3;have f0:=X2.cell 0 _ rfl;have f1:=X2.cell 1 _ rfl;have f2:=X2.cell 2 _ rfl;have f3:=X2.cell 3 _ rfl;go_wp2_with fail
       refine (D2 _ B2).mono ?_;rintro e w3 ⟨rfl,b3⟩;have X3:=X2.below b3;have B3:=bel_trans B2 b3;clear f0 f1 f2 f3;have f0:=X3.cell 0 _ rfl;have f1:=X3.cell 1 _ rfl;have f2:=X3.cell 2 _ rfl;have f3:=X3.cell 3 _ rfl;go_wp2_with fail
       go_ret2
       exact ⟨by rw [HR.out];rfl,B3⟩
   ·rw [decide_eq_false hm] at CM
    have HR:Hid (formedL h=(k,1)):=HBad.out 1 (by omega) (HFS.out _ (by rw [if_pos hm]));go_wp2_with fail
    refine (CM.out _).mono ?_;rintro e w1 ⟨rfl,b1⟩;have X1:=X0.below b1;have B1:=bel_trans B0 b1;have f0:=X1.cell 0 _ rfl;have f1:=X1.cell 1 _ rfl;have f2:=X1.cell 2 _ rfl;have f3:=X1.cell 3 _ rfl;go_wp2_with fail
    go_ret2
    exact ⟨by rw [HR.out];rfl,B1⟩
  ·obtain rfl:k=n:=by omega
   have HAll:Hid (∀ j,j < h.length→wrongAt h j=false):=by have:=HN.out;intro j hj;exact HA.out j (by omega)
   have D2:=fun (t:Int)=>C2 t k (by omega)
   go_wp2_with fail
   go_loopw [9] (fun i wq=>∃ q:Nat,q≤k∧i=.int .i64 q∧Hid (∀ j,j < q→openAt h j=false)∧Below w.heap.size w wq) (fun i _=>k - (RowKit.intOf i).toNat)
   case atStart=>exact ⟨0,Nat.zero_le _,rfl,(fun j hj=>by omega),hbw⟩
   case round =>
    obtain ⟨q,hq,rfl,HI,hbq⟩:=hrel
    by_cases hql:q < k
    ·have hq1:q < h.length:=by have:=HN.out;omega
     obtain ⟨bb,off,rfl,HQ⟩:=HC.out (by omega);obtain ⟨m0,m1,_,_⟩:=HQ.out q hq1 _ hbq;obtain ⟨⟨y0,y1,y2,y3⟩,hy⟩:∃ x,ev h q=x:=⟨_,rfl⟩;have HY:Hid (ev h q=(y0,y1,y2,y3)):=hy;rw [hy] at m0 m1;simp only at m0 m1;clear hy;have E2:=D2 y1;rcases he:endL h y1 k with _ | g
     ·rw [he] at E2
      simp only [oI] at E2
      have HR:Hid (formedL h=(k,9)):=by
       have:=formed_open h HL.out HAll.out q hq1 (by show decide _=true;rw [HY.out,HN.out];exact decide_eq_true he);rw [HN.out] at this;exact this
      go_wp2_with fail
      refine (E2 _ hbq).mono ?_;rintro e w1 ⟨rfl,b1⟩;go_wp2_with fail
      go_ret2
      exact ⟨by rw [HR.out];rfl,bel_trans hbq b1⟩
     ·rw [he] at E2
      simp only [oI] at E2;have jg:¬ (g:Int) < 0:=by omega
      have HI':Hid (∀ j,j < q+1→openAt h j=false):=upto_next _ q HI.out (by show decide _=false;rw [HY.out,HN.out];exact decide_eq_false (by rw [he];simp));go_wp2_with fail
      refine (E2 _ hbq).mono ?_;rintro e w1 ⟨rfl,b1⟩;go_wp2_with fail
      refine ⟨?relO,?meaO⟩
      case relO=>exact ⟨q+1,by omega,by first | go_num | simp,HI',bel_trans hbq b1⟩
      case meaO=>simp [RowKit.intOf];omega
    ·obtain rfl:q=k:=by omega
     have HR:Hid (formedL h=(q,0)):=by
      have:=formed_fine h HL.out HAll.out (by have:=HN.out;intro j hj;exact HI.out j (by omega));rw [HN.out] at this;exact this
     go_wp2_with fail
     go_ret2
     exact ⟨by rw [HR.out];rfl,hbq⟩
end Go.Proofs.YthamoeekiglphaaGreatDoor
