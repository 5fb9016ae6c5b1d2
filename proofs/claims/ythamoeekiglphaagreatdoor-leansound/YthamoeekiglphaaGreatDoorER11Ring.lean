/-
  What cartoucheref11.Ring answers.
-/
import Derived.Test.YthamoeekiglphaaGreatDoorER11Starts
namespace Go.Proofs.YthamoeekiglphaaGreatDoor
set_option maxRecDepth 100000
open Go.RowKit
set_option linter.unusedVariables false
set_option linter.unusedSimpArgs false
attribute [local go_sem] ba_size
set_option maxHeartbeats 8000000 in
theorem rring_any (vl:Value) (l:List Stp) (w:World) (hT:IsSts w vl l) (hl9:l.length≤1000000000) :
 Calls Tryz.prog 98 #[vl] w fun e w'=>RingRes 113 w (ringL l) e w':=by
 obtain ⟨i0,hi,hz0,hz1,hz2⟩:=info_parts st_info;have CS:=rstarts_any vl l w hT hl9;have CWy:=fun (to:Int) (many:Nat) (h9:many≤1000000000) W (hW:Below w.heap.size w W)=>rways_any vl l to many W (hT.below hW) hl9 h9
 have hSl:(startsL l).length≤l.length:=starts_len l;obtain ⟨al,cl,rfl,p1,p2,p3,HL⟩:=hT.reads;obtain ⟨m,hm⟩:∃ m,l.length=m:=⟨_,rfl⟩;have HM:Hid (l.length=m):=hm;simp only [hm] at CWy CS;rw [hm] at p1 p3 hl9 hSl ⊢;obtain ⟨S,hS⟩:∃ S,startsL l=S:=⟨_,rfl⟩;have HS:Hid (startsL l=S):=hS;rw [hS] at CS hSl;clear hT hm hS;go_enter Tryz.func98,Tryz.ntmps98
 go_wp2_with fail
 refine CS.mono ?_;rintro e w1 ⟨vs,rfl,B1,srow⟩;have TS:IsInts w1 vs S:=IsRec.own intV_len (by omega) srow (by omega);obtain ⟨aS,cS,rfl,r1,r2,r3,HSr⟩:=IsInts.reads TS;obtain ⟨c,hc⟩:∃ c,S.length=c:=⟨_,rfl⟩;have HC:Hid (S.length=c):=hc;rw [hc] at r1 r3 hSl ⊢;clear hc TS srow CS
 have HIs:Hid (∀ k (hk:k < S.length),∃ hk':k < (startsL l).length,(startsL l)[k]=S[k]):=fun k hk=>by
  have e:=HS.out;subst e;exact ⟨hk,rfl⟩
 go_wp2_with fail
 go_loopw [5] (fun nv wr=>∃ n:Nat,1≤n∧n≤c+1∧nv=.int .i64 n∧Hid (∀ j,1≤j→j < n→ringAt l j=none)∧Below w1.heap.size w1 wr) (fun nv _=>c+1 - (RowKit.intOf nv).toNat)
 case atStart=>exact ⟨1,Nat.le_refl _,by omega,rfl,(fun j h1 h2=>by omega),Below.refl _ _⟩
 case round =>
  obtain ⟨n,hn0,hn,rfl,HA,hbw⟩:=hrel;obtain ⟨wo,rfl⟩:∃ wo,wo=wr:=⟨_,rfl⟩
  by_cases hlt:n≤c
  ·have jn:(n:Int)≤(c:Int):=by omega
   go_wp2_with fail
   go_loopw [6] (fun kv wq=>∃ k:Nat,k≤c∧kv=.int .i64 k∧Hid (∀ j (hj:j < S.length),j < k→wayB l S[j] n S[j]=false)∧Below w1.heap.size w1 wq) (fun kv _=>c - (RowKit.intOf kv).toNat)
   case atStart=>exact ⟨0,Nat.zero_le _,rfl,(fun j _ h=>by omega),hbw⟩
   case round =>
    obtain ⟨k,hk,rfl,HB,hbq⟩:=hrel;obtain ⟨wq,rfl⟩:∃ wq,wq=wr:=⟨_,rfl⟩
    by_cases hlk:k < c
    ·have hk1:k < S.length:=by have:=HC.out;omega
     have jk:(k:Int) < (c:Int):=by omega
     obtain ⟨gs,os,rfl,HQs⟩:=HSr.out (by omega);obtain ⟨s,hs⟩:∃ s,S[k]=s:=⟨_,rfl⟩;have HSk:Hid (S[k]'hk1=s):=hs
     have HCs:Hid (∀ V,Below w1.heap.size w1 V→V.cell? ⟨gs,os+k,none⟩=some (.int .i64 s)):=fun V hV=>by
      have e:=HQs.out k hk1 V hV;rw [getD_at S 0 k hk1,HSk.out] at e;exact e
     clear hs;have xs0:=HCs.out _ hbq;have D:=CWy s n (by omega) _ (bel_trans B1 hbq);go_wp2_with fail
     refine D.mono ?_;clear D;rintro e w2 ⟨vw,Vs,rfl,b2,hVs,vrow,HW⟩;have B2:=bel_trans hbq b2
     obtain ⟨gw,cw,hvw,hcw,hcw2⟩:∃ g c,vw=.slice (some ⟨g,0,none⟩) (n+1) c∧n+1≤c∧c≤9223372036854775807:=by
      rcases vrow.2 with ⟨_,h⟩ | ⟨g,cap,cur,rfl,_,_,h2,h3,_⟩
      ·omega
      ·exact ⟨g,cap,rfl,h2,by unfold maxLen at h3;omega⟩
     obtain ⟨nn,hnn⟩:∃ nn,n+1=nn:=⟨_,rfl⟩;have HNN:Hid (n+1=nn):=hnn;have hn1:n < nn:=by omega
     have jn1:(n:Int) < (nn:Int):=by omega
     rw [hnn] at hvw hcw vrow hVs;subst hvw;have HVn:Hid (Vs.length=nn):=hVs
     have HVc:Hid (∀ q (hq:q < Vs.length) V,Below w2.heap.size w2 V→V.cell? ⟨gw,q,none⟩=some Vs[q]∧∃ N:List Int,IsInts V Vs[q] N∧∀ x,x∈N↔wayB l s q x=true):=fun q hq V hV=>by
      refine ⟨?_,?_⟩
      ·have e:=(owns_below vrow hV).cellAt q (by omega)
       rw [e];exact List.getElem?_eq_getElem hq
      ·obtain ⟨N,h1,h2,h3⟩:=HW q _ (List.getElem?_eq_getElem hq)
       exact ⟨N,(IsRec.own intV_len (by omega) h1 (by have:=HM.out;omega)).below hV,h3⟩
     clear vrow HW hVs hnn;obtain ⟨hc1,N,hN,hN3⟩:=HVc.out n (by have:=HVn.out;omega) w2 (Below.refl _ _);obtain ⟨un,hun⟩:∃ u,Vs[n]'(by have:=HVn.out;omega)=u:=⟨_,rfl⟩;rw [hun] at hc1 hN;clear hun;have ys0:=HCs.out _ B2;have CH:=fun W (hW:Below w2.heap.size w2 W)=>rhas_any un N s W (hN.below hW)
     have HD:Hid (decide (s∈N)=wayB l s n s):=by
      show _=_;cases hw:wayB l s n s with
      | true=>exact decide_eq_true ((hN3 s).2 hw)
      | false=>exact decide_eq_false (fun h=>by rw [(hN3 s).1 h] at hw;cases hw)
     rw [HD.out] at CH;clear hN hN3 HD xs0;cases hw:wayB l s n s with
     | false =>
       rw [hw] at CH
       have HB2:Hid (∀ j (hj:j < S.length),j < k+1→wayB l S[j] n S[j]=false):=fun j hj hlt=>by
        rcases Nat.lt_or_ge j k with h' | h'
        ·exact HB.out j hj h'
        ·obtain rfl:j=k:=by omega
         rw [HSk.out];exact hw
       clear hw;have S0:(fun V=>Below w2.heap.size w2 V∧V.cell? ⟨gw,n,none⟩=some (un)∧V.cell? ⟨gs,os+k,none⟩=some (.int .i64 s)) w2.drew:=⟨(Below.refl _ _).drew,hc1,ys0⟩;have keepS:∀ V V':World,(fun V=>Below w2.heap.size w2 V∧V.cell? ⟨gw,n,none⟩=some (un)∧V.cell? ⟨gs,os+k,none⟩=some (.int .i64 s)) V→Below V.heap.size V V'→(fun V=>Below w2.heap.size w2 V∧V.cell? ⟨gw,n,none⟩=some (un)∧V.cell? ⟨gs,os+k,none⟩=some (.int .i64 s)) V':=fun V V' ⟨a,a0,a1⟩ d=>⟨bel_trans a d,cell_bel d a0,cell_bel d a1⟩
       go_wp2_with fail
       go_region_held3 (fun V=>Below w2.heap.size w2 V∧V.cell? ⟨gw,n,none⟩=some (un)∧V.cell? ⟨gs,os+k,none⟩=some (.int .i64 s)) (first | exact S0 | exact keepS _ _ (by assumption) (by assumption)) (first | (go_at_call 121;refine (CH _ (bel_trans (Below.refl _ _) (And.left (by assumption)))).mono ?_;rintro e' w' ⟨rfl,b8⟩))
       rename_i hHeld8
       have s8:=hHeld8.1;clear S0 keepS hHeld8;go_wp2_with fail
       refine ⟨⟨k+1,by omega,by first | go_num | simp,HB2,bel_trans B2 s8⟩,by simp [RowKit.intOf];omega⟩
     | true =>
       rw [hw] at CH
       have HE:Hid (ringL l=some (ringPath l s n s)):=by
        show _=_;obtain ⟨hk',ek⟩:=HIs.out k hk1
        have e1:ringAt l n=some s:=by
         rw [← HSk.out,← ek];refine ringAt_some l n k hk' (fun j hj hlt=>?_) (by rw [ek,HSk.out];exact hw);have hj':j < S.length:=by rw [← HS.out];exact hj
         obtain ⟨_,ej⟩:=HIs.out j hj';rw [ej];exact HB.out j hj' hlt
        obtain ⟨n',rfl⟩:∃ n',n=n'+1:=⟨n - 1,by omega⟩;exact ringL_some l n' s (by rw [HS.out,HC.out];omega) HA.out e1
       have HWy:Hid (wayB l s n s=true):=hw;clear hw;have S0:(fun V=>Below w2.heap.size w2 V∧V.cell? ⟨gw,n,none⟩=some (un)∧V.cell? ⟨gs,os+k,none⟩=some (.int .i64 s)) w2.drew:=⟨(Below.refl _ _).drew,hc1,ys0⟩;have keepS:∀ V V':World,(fun V=>Below w2.heap.size w2 V∧V.cell? ⟨gw,n,none⟩=some (un)∧V.cell? ⟨gs,os+k,none⟩=some (.int .i64 s)) V→Below V.heap.size V V'→(fun V=>Below w2.heap.size w2 V∧V.cell? ⟨gw,n,none⟩=some (un)∧V.cell? ⟨gs,os+k,none⟩=some (.int .i64 s)) V':=fun V V' ⟨a,a0,a1⟩ d=>⟨bel_trans a d,cell_bel d a0,cell_bel d a1⟩
       go_wp2_with fail
       go_region_held3 (fun V=>Below w2.heap.size w2 V∧V.cell? ⟨gw,n,none⟩=some (un)∧V.cell? ⟨gs,os+k,none⟩=some (.int .i64 s)) (first | exact S0 | exact keepS _ _ (by assumption) (by assumption)) (first | (go_at_call 121;refine (CH _ (bel_trans (Below.refl _ _) (And.left (by assumption)))).mono ?_;rintro e' w' ⟨rfl,b8⟩))
       rename_i hHeld8
       have s8:=hHeld8.1;clear S0 keepS hHeld8;have B3:=bel_trans B2 s8;have zs0:=HCs.out _ B3;have Bw:=bel_trans B1 B3;clear hc1 ys0;have s9:=s8;obtain ⟨w3,rfl⟩:∃ w3,w3=w':=⟨_,rfl⟩;clear b8;go_wp2_with fail
       go_loopw [9,10,11] (fun ov av mv wr=>∃ (p:Nat) (a z:Int) (L':List SVt) (P:List Stp),p≤n∧Hid (z=(p:Int) - 1)∧mv=.int .i64 z∧av=.int .i64 a∧Hid (ringPath l s n s=P++ringPath l s p a)∧Hid (wayB l s p a=true)∧L'.length+p=n∧Hid (StOf w L' P)∧Below w3.heap.size w3 wr∧wr.ownsRow w3.heap.size 113 3 ov L'.length (recV stV L')) (fun _ _ mv _=>(RowKit.intOf mv+1).toNat)
       case atStart=>exact ⟨n,s,(n:Int) - 1,[],[],Nat.le_refl _,(show _=_ from rfl),by first | rfl | go_num | simp,rfl,(show _=_ from rfl),HWy,by simp,StOf.nil _,Below.refl _ _,World.ownsRow_nil _ _ _ _⟩
       case round =>
        obtain ⟨p,a,z,L',P,hp,HZ,rfl,rfl,HP,HWp,hlen,HSt,hbp,prow⟩:=hrel;obtain ⟨wp,rfl⟩:∃ wp,wp=wr:=⟨_,rfl⟩;cases p with
        | zero =>
          obtain rfl:z=-1:=by have:=HZ.out;omega
          have HPe:Hid (ringPath l s n s=P):=by show _=_;rw [HP.out,ringPath,List.append_nil]
          have hbf:=bel_trans Bw hbp;go_wp2_with fail
          go_ret2
          refine ⟨_,L',by rw [HE.out];rfl,hbf,owns_low prow Bw.size,?_⟩;rw [HE.out];show StOf _ _ (ringPath l s n s);rw [HPe.out];exact HSt.out.below hbf
        | succ q =>
          obtain rfl:z=(q:Int):=by have:=HZ.out;omega
          have jq0:(0:Int)≤(q:Int):=by omega
          have hqn:q < Vs.length:=by have:=HVn.out;have:=HNN.out;omega
          have hqnn:q < nn:=by have:=HNN.out;omega
          have jqn:(q:Int) < (nn:Int):=by omega
          obtain ⟨uq,huq⟩:∃ u,Vs[q]=u:=⟨_,rfl⟩;have HVq:Hid (∀ V,Below w2.heap.size w2 V→V.cell? ⟨gw,q,none⟩=some uq∧∃ N:List Int,IsInts V uq N∧∀ x,x∈N↔wayB l s q x=true):=fun V hV=>by rw [← huq];exact HVc.out q hqn V hV
          clear huq;go_wp2_with fail
          go_loopw [9,10,12,13] (fun ov av fv iv wr=>∃ (i:Nat) (b:Bool) (a':Int) (M':List SVt) (Q:List Stp),i≤m∧iv=.int .i64 i∧fv=.bool b∧av=.int .i64 a'∧Hid (PathS l s a q P L'.length b i a' Q M'.length)∧Hid (StOf w M' Q)∧Below w3.heap.size w3 wr∧wr.ownsRow w3.heap.size 113 3 ov M'.length (recV stV M')) (fun _ _ _ iv _=>m - (RowKit.intOf iv).toNat)
          case atStart=>exact ⟨0,false,a,L',P,Nat.zero_le _,rfl,rfl,rfl,.inl ⟨rfl,rfl,rfl,rfl,fun j _ h=>by omega⟩,HSt,hbp,prow⟩
          case round =>
           obtain ⟨i,b,a',M',Q,hi9,rfl,rfl,rfl,HPS,HSQ,hbx,qrow⟩:=hrel;obtain ⟨wx,rfl⟩:∃ wx,wx=wr:=⟨_,rfl⟩;cases b with
           | true =>
             have HF:Hid (M'.length=L'.length+1∧wayB l s q a'=true∧P++ringPath l s (q+1) a=Q++ringPath l s q a'):=by
              rcases HPS.out with ⟨h,_⟩ | ⟨_,h⟩
              ·cases h
              ·exact h
             have hM:=HF.out.1;have HP2:Hid (ringPath l s n s=Q++ringPath l s q a'):=HP.out.trans HF.out.2.2;have HW2:Hid (wayB l s q a'=true):=HF.out.2.1;obtain ⟨dd,hdd⟩:∃ d,decide ((i:Int) < (m:Int))=d:=⟨_,rfl⟩;cases dd with
             | true =>
               have ji:(i:Int) < (m:Int):=of_decide_eq_true hdd;clear hdd;go_wp2_with fail
               refine ⟨⟨q,a',(q:Int) - 1,M',Q,by omega,(show _=_ from rfl),by first | rfl | go_num | simp,rfl,HP2,HW2,by omega,HSQ,hbx,qrow⟩,?_⟩;simp [RowKit.intOf]<;>omega
             | false =>
               have ji:¬ (i:Int) < (m:Int):=of_decide_eq_false hdd;clear hdd;go_wp2_with fail
               refine ⟨⟨q,a',(q:Int) - 1,M',Q,by omega,(show _=_ from rfl),by first | rfl | go_num | simp,rfl,HP2,HW2,by omega,HSQ,hbx,qrow⟩,?_⟩;simp [RowKit.intOf]<;>omega
           | false =>
             obtain ⟨rfl,rfl,hMl,HJ⟩:a'=a∧Q=P∧M'.length=L'.length∧Hid (∀ j (hj:j < l.length),j < i→¬ (l[j].1=a∧wayB l s q l[j].2.1=true)):=by
              rcases HPS.out with ⟨_,h1,h2,h3,h4⟩ | ⟨h,_⟩
              ·exact ⟨h1,h2,h3,h4⟩
              ·cases h
             by_cases hli:i < m
             ·have hi1:i < l.length:=by have:=HM.out;omega
              have ji:(i:Int) < (m:Int):=by omega
              obtain ⟨bs,ob,rfl,uu,hEd,C1⟩:=HL.out i hi1;obtain ⟨⟨fr,t,E⟩,hy⟩:∃ y,l[i]=y:=⟨_,rfl⟩;have HYi:Hid (l[i]'hi1=(fr,t,E)):=hy;rw [hy] at C1 hEd;simp only at C1 hEd;have HC1:=Lib.hid C1;have HEd:=Lib.hid hEd;obtain ⟨ua,uc,huu,_⟩:=hEd.some_at;subst huu;clear hy C1;obtain ⟨cq,N,hN,hN3⟩:=HVq.out _ (bel_trans s9 hbx);have CH2:=fun W (hW:Below wx.heap.size wx W)=>rhas_any uq N t W (hN.below hW)
              have HD:Hid (decide (t∈N)=wayB l s q t):=by
               show _=_;cases hw:wayB l s q t with
               | true=>exact decide_eq_true ((hN3 t).2 hw)
               | false=>exact decide_eq_false (fun h=>by rw [(hN3 t).1 h] at hw;cases hw)
              rw [HD.out] at CH2;obtain ⟨on,hon⟩:∃ b,wayB l s q t=b:=⟨_,rfl⟩;have HON:Hid (wayB l s q t=on):=hon;rw [hon] at CH2;clear hN hN3 HD hon;obtain ⟨x0,x1,_⟩:=HC1.out _ (bel_trans Bw hbx);have S0:(fun V=>Below wx.heap.size wx V∧V.cell? ⟨gw,q,none⟩=some (uq)∧V.cell? ⟨bs,ob+i*3+1,none⟩=some (.int .i64 t)) wx.drew:=⟨(Below.refl _ _).drew,cq,x1⟩;have keepS:∀ V V':World,(fun V=>Below wx.heap.size wx V∧V.cell? ⟨gw,q,none⟩=some (uq)∧V.cell? ⟨bs,ob+i*3+1,none⟩=some (.int .i64 t)) V→Below V.heap.size V V'→(fun V=>Below wx.heap.size wx V∧V.cell? ⟨gw,q,none⟩=some (uq)∧V.cell? ⟨bs,ob+i*3+1,none⟩=some (.int .i64 t)) V':=fun V V' ⟨a,a0,a1⟩ d=>⟨bel_trans a d,cell_bel d a0,cell_bel d a1⟩
              go_wp2_with fail
              go_region_held3 (fun V=>Below wx.heap.size wx V∧V.cell? ⟨gw,q,none⟩=some (uq)∧V.cell? ⟨bs,ob+i*3+1,none⟩=some (.int .i64 t)) (first | exact S0 | exact keepS _ _ (by assumption) (by assumption)) (first | (go_at_call 121;refine (CH2 _ (bel_trans (Below.refl _ _) (And.left (by assumption)))).mono ?_;rintro e' w' ⟨rfl,b8⟩))
              rename_i hHeld8
              have s8:=hHeld8.1;clear S0 keepS hHeld8;have B4:=bel_trans hbx s8;have row4:=owns_below qrow s8;obtain ⟨y0,y1,y2⟩:=HC1.out _ (bel_trans Bw B4);clear cq x0 x1;obtain ⟨wy,rfl⟩:∃ wy,wy=w':=⟨_,rfl⟩;clear b8
              by_cases d:fr=a'∧on=true
              ·obtain ⟨rfl,rfl⟩:=d
               have e1:(fr==fr)=true:=beq_self_eq_true _
               have HPt:Hid (PathS l s fr q Q L'.length true (i+1) t (Q++[(fr,t,E)]) (M'.length+1)):=.inr ⟨rfl,by rw [hMl],HON.out,by
                rw [path_next l s q fr i hi1 (by rw [HYi.out]) (by rw [HYi.out];exact HON.out) HJ.out,HYi.out];simp⟩
               have HSt2:Hid (StOf w (M'++[(fr,t,.slice ua E.length uc)]) (Q++[(fr,t,E)])):=HSQ.out.push fr t _ E HEd.out;have sz:=B4.size;go_wp2_with (at_builtin;refine wpList_append_own _ rfl _ _ 107 rfl w3.heap.size 113 i0 (.agg #[.int .i64 0,.int .i64 0,.slice none 0 0]) 3 40 Tryz.underlying107 hi hz0 hz1 hz2 rfl (by decide) _ _ _ rfl (row4.alloc _) ⟨wy.heap.size,0,none⟩ 1 1 [.int .i64 fr,.int .i64 t,.slice ua E.length uc] rfl rfl ?g1 ?g2 ?g3 ?g4 ?g5 ?_)
               try
                case g1=>intro j u hj;match j,hj with
                 | 0,hj=>simp at hj;subst hj;first | (simp [Addr.add];done) | exact cell_new7 (by simp) rfl
                 | 1,hj=>simp at hj;subst hj;first | (simp [Addr.add];done) | exact cell_new7 (by simp) rfl
                 | 2,hj=>simp at hj;subst hj;first | (simp [Addr.add];done) | exact cell_new7 (by simp) rfl
               try
                case g2=>intro u hu;simp at hu;rcases hu with rfl | rfl | rfl<;>rfl
               try
                case g2=>exact ⟨rfl,rfl,rfl⟩
               try
                case g3=>unfold maxLen;omega
               try
                case g4=>omega
               try
                case g5=>first | omega | (simp;done) | (simp;omega)
               intro v5 w5 own5 g5 _;have B5:Below w3.heap.size w3 w5:=(B4.alloc sz _).grown g5 (by simp;omega) (fun j hj=>(row4.lt j hj).1);obtain ⟨z0,z1,_⟩:=HC1.out _ (bel_trans Bw B5);go_wp2_with fail
               refine ⟨⟨i+1,true,t,M'++[(fr,t,.slice ua E.length uc)],Q++[(fr,t,E)],by omega,by first | go_num | simp,rfl,rfl,by rw [List.length_append];exact HPt,HSt2,B5,by rw [recS_snoc,List.length_append,hMl];exact own5⟩,by simp [RowKit.intOf];omega⟩
              ·have HPt:Hid (PathS l s a' q Q L'.length false (i+1) a' Q M'.length):=.inl ⟨rfl,rfl,rfl,hMl,fun j hj hlt=>by
                rcases Nat.lt_or_ge j i with h' | h'
                ·exact HJ.out j hj h'
                ·obtain rfl:j=i:=by omega
                 rw [HYi.out];exact fun hh=>d ⟨hh.1,by rw [← HON.out];exact hh.2⟩⟩
               by_cases d1:fr=a'
               ·have e1:(fr==a')=true:=by rw [d1];exact beq_self_eq_true _
                obtain rfl:on=false:=by
                 cases on with
                 | false=>rfl
                 | true=>exact absurd ⟨d1,rfl⟩ d
                clear d d1;go_wp2_with fail
                refine ⟨⟨i+1,false,a',M',Q,by omega,by first | go_num | simp,rfl,rfl,HPt,HSQ,B4,row4⟩,by simp [RowKit.intOf];omega⟩
               ·have e1:(fr==a')=false:=beq_eq_false_iff_ne.2 d1
                clear d d1;go_wp2_with fail
                refine ⟨⟨i+1,false,a',M',Q,by omega,by first | go_num | simp,rfl,rfl,HPt,HSQ,B4,row4⟩,by simp [RowKit.intOf];omega⟩
             ·exfalso
              obtain ⟨j,hj,h1,h2⟩:=way_has l s q a' HWp.out;exact HJ.out j hj (by have:=HM.out;omega) ⟨h1,h2⟩
    ·obtain rfl:k=c:=by omega
     have jk:¬ (k:Int) < (k:Int):=by omega
     have HA2:Hid (∀ j,1≤j→j < n+1→ringAt l j=none):=fun j h1 h2=>by
      rcases Nat.lt_or_ge j n with h' | h'
      ·exact HA.out j h1 h'
      ·obtain rfl:j=n:=by omega
       refine ringAt_none l j (fun i hi=>?_);have hi':i < S.length:=by rw [← HS.out];exact hi
       obtain ⟨_,ei⟩:=HIs.out i hi';rw [ei];exact HB.out i hi' (by rw [← HC.out];exact hi')
     go_wp2_with fail
     refine ⟨⟨n+1,by omega,by omega,by first | go_num | simp,HA2,hbq⟩,by simp [RowKit.intOf];omega⟩
  ·obtain rfl:n=c+1:=by omega
   have jn:¬ (c:Int)+1≤(c:Int):=by omega
   have jn':¬ ((c+1:Nat):Int)≤(c:Int):=by omega
   have HE:Hid (ringL l=none):=ringL_none l (fun j h1 h2=>HA.out j h1 (by rw [HS.out,HC.out] at h2;omega));go_wp2_with fail
   go_ret2
   exact ⟨_,[],by rw [HE.out];rfl,bel_trans B1 hbw,World.ownsRow_nil _ _ _ _,by rw [HE.out];exact StOf.nil _⟩
end Go.Proofs.YthamoeekiglphaaGreatDoor
