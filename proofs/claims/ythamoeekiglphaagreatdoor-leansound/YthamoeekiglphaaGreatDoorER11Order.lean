/-
  What cartoucheref11.Order answers.
-/
import Derived.Test.YthamoeekiglphaaGreatDoorEL0d
import Derived.Laws.AppendOwnNone
namespace Go.Proofs.YthamoeekiglphaaGreatDoor
set_option maxRecDepth 100000
open Go.RowKit
set_option linter.unusedVariables false
set_option linter.unusedSimpArgs false
attribute [local go_sem] ba_size
def OrdRes (w:World) (r:Option (List Int)) (e:Ending) (w':World):Prop:=∃ v,e=.returned (.tuple #[v,.bool r.isSome])∧Below w.heap.size w w'∧w'.ownsRow w.heap.size 3 1 v (r.getD []).length (recV intV (r.getD []))
theorem ints_own {W:World} {B:Nat} {v:Value} {l:List Int} (h:W.ownsRow B 3 1 v l.length (recV intV l)) (hn:l.length≤140737488351232):IsInts W v l:=IsRec.own intV_len (by omega) h hn
set_option maxHeartbeats 8000000 in
theorem rorder_any (vn vl:Value) (nodes:List Int) (l:List Stp) (w:World) (hO:IsInts w vn nodes) (hS:Shp vn) (hT:IsSts w vl l) (hn9:nodes.length≤1000000) :
 Calls Tryz.prog 96 #[vn,vl] w fun e w'=>OrdRes w (orderL nodes l) e w':=by
 obtain ⟨i0,hi,hz0,hz1,hz2⟩:=info_parts int_info;obtain ⟨al,cl,rfl,p1,p2,p3,HL⟩:=hT.reads;obtain ⟨m,hm⟩:∃ m,l.length=m:=⟨_,rfl⟩;have HM:Hid (l.length=m):=hm;rw [hm] at p1 p3 ⊢;obtain ⟨n,hn⟩:∃ n,nodes.length=n:=⟨_,rfl⟩;have HN:Hid (nodes.length=n):=hn;rw [hn] at hn9;have hB0:Below w.heap.size w w:=Below.refl _ _;have E0:=own_empty8 w 3 1;have BE:=(Below.refl w.heap.size w).alloc (Nat.le_refl _) (.cells #[] 3);clear hT hm;rcases hS with rfl | ⟨ad,n',c',rfl⟩
 ·obtain ⟨a,cap,e,_⟩:=hO.some_at
  have h0:nodes=[]:=List.length_eq_zero_iff.1 (by simp at e;omega);subst h0;have hE:orderL [] l=some []:=rfl;rw [hE];clear hO e hn;go_enter Tryz.func96,Tryz.ntmps96
  go_wp2_with (at_builtin;refine wpList_append_own_none rfl _ _ 22 rfl w.heap.size 3 i0 1 Tryz.underlying22 hi _ _ _ rfl E0 rfl ?_)
  go_wp2_with fail
  obtain ⟨ww,hww⟩:∃ ww,w.alloc (.cells #[] 3)=ww:=⟨_,rfl⟩;rw [hww] at BE ⊢;clear hww;go_loopw [6,7] (fun lv ov wr=>lv=.slice (some ⟨w.heap.size,0,none⟩) 0 0∧ov=.slice none 0 0∧wr=ww) (fun _ _ _=>0)
  case atStart=>exact ⟨rfl,rfl,rfl⟩
  case round =>
   obtain ⟨rfl,rfl,rfl⟩:=hrel;go_wp2_with fail
   go_ret2
   exact ⟨_,rfl,BE,World.ownsRow_nil _ _ _ _⟩
 ·obtain ⟨a,cap,e,q1,q2,q3,HCn⟩:=IsInts.reads hO
  obtain ⟨rfl,rfl,rfl⟩:some ad=a∧n'=nodes.length∧c'=cap:=by simpa using e
  have SRC:=IsRec.src intV_len (by omega) hO BE;have LEN:=recV_length intV_len nodes;have ONE:=recV_one (enc:=intV) (fun x u hu=>by simp [intV] at hu;subst hu;rfl) nodes;rw [hn] at q1 q3 LEN ⊢;clear e HCn hn;go_enter Tryz.func96,Tryz.ntmps96
  go_wp2_with (at_builtin;refine wpList_append_own _ rfl _ _ 22 rfl w.heap.size 3 i0 (.int .i64 0) 1 8 Tryz.underlying22 hi hz0 hz1 hz2 rfl (by decide) _ _ _ rfl E0 ad n c' (recV intV nodes) rfl LEN SRC ONE ?d3 ?d4 ?d5 ?_)
  case d3=>unfold maxLen;omega
  case d4=>omega
  case d5=>simp
  intro v1 w1 own1 g1 _;have hB1:Below w.heap.size w w1:=BE.grown g1 (by simp) (fun j hj=>(E0.lt j hj).1)
  (try rw [List.nil_append,Nat.zero_add] at own1)
  have hrow1:w1.ownsRow w.heap.size 3 1 v1 nodes.length (recV intV nodes):=by rw [HN.out];exact own1
  clear own1 g1 SRC ONE LEN E0 BE hO;go_wp2_with fail
  go_loopw [6,7] (fun lv ov wr=>∃ (left out:List Int),Hid (ordI nodes l left out)∧left.length+out.length≤n∧Below w.heap.size w wr∧wr.ownsRow w.heap.size 3 1 lv left.length (recV intV left)∧wr.ownsRow w.heap.size 3 1 ov out.length (recV intV out)∧Hid (Apart11 ov lv)) (fun lv _ _=>slLen lv)
  case atStart=>exact ⟨nodes,[],ordI_start nodes l,by simp [HN.out],hB1,hrow1,World.ownsRow_nil _ _ _ _,apart11_nil _ _ _⟩
  case round =>
   obtain ⟨left,out,HO,hlen,hbw,hrow,orow,HAP⟩:=hrel;obtain ⟨wA,rfl⟩:∃ wA,wA=wr:=⟨_,rfl⟩;obtain ⟨c,hc⟩:∃ c,left.length=c:=⟨_,rfl⟩;have HC:Hid (left.length=c):=hc
   by_cases h0:left=[]
   ·subst h0
    have HE:Hid (orderL nodes l=some out):=ordI_end nodes l out HO.out
    obtain ⟨al,cl',rfl⟩:∃ a c,u6=.slice a 0 c:=by
     rcases hrow.2 with ⟨rfl,_⟩ | ⟨g,cap,cur,rfl,_⟩
     ·exact ⟨_,_,rfl⟩
     ·exact ⟨_,_,rfl⟩
    clear hc;go_wp2_with fail
    go_ret2
    exact ⟨_,by rw [HE.out];rfl,hbw,by rw [HE.out];exact orow⟩
   ·have hc0:0 < c:=by
     rw [← hc];exact List.length_pos_iff.2 h0
    obtain ⟨gl,kl,rfl⟩:∃ g k,u6=.slice (some ⟨g,0,none⟩) c k:=by
     rcases hrow.2 with ⟨rfl,h⟩ | ⟨g,cap,cur,rfl,_⟩
     ·omega
     ·exact ⟨g,cap,by rw [← hc]⟩
    have hkl:c≤kl:=by
     rcases hrow.2 with ⟨h,_⟩ | ⟨g,cap,cur,h,_,_,h2,_⟩
     ·cases h
     ·simp only [Value.slice.injEq] at h
      obtain ⟨_,_,rfl⟩:=h;omega
    have Tl:IsInts wA (.slice (some ⟨gl,0,none⟩) c kl) left:=ints_own hrow (by omega);have CH:=fun (x:Int) W (hW:Below wA.heap.size wA W)=>rhas_any (.slice (some ⟨gl,0,none⟩) c kl) left x W (Tl.below hW)
    have CW:=fun (x:Int) W (hT:IsInts W (.slice (some ⟨gl,0,none⟩) c kl) left)=>rwithout_any (.slice (some ⟨gl,0,none⟩) c kl) left x W hT (by omega)
    have hrowc:wA.ownsRow w.heap.size 3 1 (.slice (some ⟨gl,0,none⟩) c kl) c (recV intV left):=by have e:=hrow;rw [hc] at e;exact e
    have Hcell:Hid (∀ q (hq:q < left.length) V,Below wA.heap.size wA V→V.cell? ⟨gl,q,none⟩=some (.int .i64 left[q])):=fun q hq V hV=>by
     have e:=(owns_below hrowc hV).cellAt q (by omega);have g:=recV_get intV_len left q hq 0 (by omega);rw [Nat.mul_one,Nat.add_zero] at g;rw [e,g];rfl
    have h0':=h0;have HNE:Hid (left≠[]):=h0;have jc:(0:Int) < (c:Int):=by omega
    clear h0 h0' hc;go_wp2_with fail
    go_loopw [8,9,10] (fun bv fv iv wq=>∃ (q:Nat) (r:Option Int),q≤c∧iv=.int .i64 q∧Hid (bestTo l left q=r)∧bv=.int .i64 (r.getD 0)∧fv=.bool r.isSome∧Below wA.heap.size wA wq) (fun _ _ iv _=>c - (RowKit.intOf iv).toNat)
    case atStart=>exact ⟨0,none,Nat.zero_le _,rfl,rfl,rfl,rfl,Below.refl _ _⟩
    case round =>
     obtain ⟨q,r,hq,rfl,HB,rfl,rfl,hbq⟩:=hrel;obtain ⟨wB,rfl⟩:∃ wB,wB=wr:=⟨_,rfl⟩
     by_cases hlq:q < c
     ·have hq1:q < left.length:=by have:=HC.out;omega
      have jq:(q:Int) < (c:Int):=by omega
      obtain ⟨x,hx⟩:∃ x,left[q]=x:=⟨_,rfl⟩;have HX:Hid (left[q]'hq1=x):=hx;have HCx:Hid (∀ V,Below wA.heap.size wA V→V.cell? ⟨gl,q,none⟩=some (.int .i64 x)):=fun V hV=>by rw [← HX.out];exact Hcell.out q hq1 V hV
      clear hx;go_wp2_with fail
      go_loopw [11,12] (fun fv kv wz=>∃ z:Nat,z≤m∧kv=.int .i64 z∧fv=.bool (freeTo l left x z)∧Below wA.heap.size wA wz) (fun _ kv _=>m - (RowKit.intOf kv).toNat)
      case atStart=>exact ⟨0,Nat.zero_le _,rfl,rfl,hbq⟩
      case round =>
       obtain ⟨z,hz,rfl,rfl,hbz⟩:=hrel;obtain ⟨wC,rfl⟩:∃ wC,wC=wr:=⟨_,rfl⟩
       by_cases hlz:z < m
       ·have hz1:z < l.length:=by have:=HM.out;omega
        have jz:(z:Int) < (m:Int):=by omega
        obtain ⟨bs,os,rfl,u,_,C1⟩:=HL.out z hz1;obtain ⟨⟨f,t,E⟩,hy⟩:∃ y,l[z]=y:=⟨_,rfl⟩;have HNx:Hid (freeTo l left x (z+1)=(freeTo l left x z&&!(decide (t=x)&&decide (f∈left)))):=by show _=_;rw [freeTo_next l left x z hz1,hy]
        rw [hy] at C1;simp only at C1;have HC1:=Lib.hid C1;clear hy C1;have hwz:=bel_trans (bel_trans hB0 hbw) hbz;obtain ⟨x0,x1,_⟩:=HC1.out _ (bel_trans hbw hbz);have D:=CH f _ hbz;obtain ⟨hb,hhb⟩:∃ b,decide (f∈left)=b:=⟨_,rfl⟩;rw [hhb] at D HNx;clear hhb;obtain ⟨fr,hfr⟩:∃ b,freeTo l left x z=b:=⟨_,rfl⟩;rw [hfr] at HNx;simp only [hfr];clear hfr;have HST:∀ b,(fr&&!(decide (t=x)&&hb))=b→Hid (freeTo l left x (z+1)=b):=fun b e=>by show _=_;rw [HNx.out,e]
        go_wp2_with fail
        refine D.mono ?_;rintro e w2 ⟨rfl,b2⟩;have hb2:=bel_trans hbz b2;obtain ⟨y0,y1,_⟩:=HC1.out _ (bel_trans hbw hb2);have y3:=HCx.out _ hb2;clear x0 x1 D;cases fr with
        | false =>
          have HS:=HST false rfl;go_wp2_with fail
          go_quiet (fail)
          go_wp2_with fail
          refine ⟨⟨z+1,by omega,by first | go_num | simp,by first | (rw [HS.out];done) | (rw [HS.out];rfl),below_drewN hb2 _⟩,by simp [RowKit.intOf];omega⟩
        | true =>
          by_cases d:t=x
          ·have e1:(t != x)=false:=by rw [d];simp
           have HS:=HST (!hb) (by rw [decide_eq_true d];simp);clear d;cases hb with
           | false =>
             go_wp2_with fail
             go_quiet (fail)
             go_wp2_with fail
             refine ⟨⟨z+1,by omega,by first | go_num | simp,by first | (rw [HS.out];done) | (rw [HS.out];rfl),below_drewN hb2 _⟩,by simp [RowKit.intOf];omega⟩
           | true =>
             go_wp2_with fail
             go_quiet (fail)
             go_wp2_with fail
             refine ⟨⟨z+1,by omega,by first | go_num | simp,by first | (rw [HS.out];done) | (rw [HS.out];rfl),below_drewN hb2 _⟩,by simp [RowKit.intOf];omega⟩
          ·have e1:(t != x)=true:=bne_iff_ne.2 d
           have HS:=HST true (by rw [decide_eq_false d];rfl);clear d;go_wp2_with fail
           go_quiet (fail)
           go_wp2_with fail
           refine ⟨⟨z+1,by omega,by first | go_num | simp,by first | (rw [HS.out];done) | (rw [HS.out];rfl),below_drewN hb2 _⟩,by simp [RowKit.intOf];omega⟩
       ·obtain rfl:z=m:=by omega
        have jz:¬ (z:Int) < (z:Int):=by omega
        have HFr:Hid (freeTo l left x z=freeB l left (left[q]'hq1)):=by show _=_;rw [HX.out,← HM.out];exact freeTo_all l left x
        have x3:=HCx.out _ hbz;obtain ⟨fr,hfr⟩:∃ b,freeTo l left x z=b:=⟨_,rfl⟩;rw [hfr] at HFr;simp only [hfr];clear hfr;cases fr with
        | false =>
          have HS:Hid (bestTo l left (q+1)=r):=by show _=_;rw [bestTo_no l left q hq1 HFr.out.symm];exact HB.out
          go_wp2_with fail
          refine ⟨⟨q+1,r,by omega,by first | go_num | simp,HS,rfl,rfl,hbz⟩,by simp [RowKit.intOf];omega⟩
        | true =>
          have HY:=bestTo_yes l left q hq1 HFr.out.symm;rw [HB.out,HX.out] at HY;cases r with
          | none =>
            have HS:Hid (bestTo l left (q+1)=some x):=HY;clear HY;simp only [Option.getD_none,Option.isSome_none];go_wp2_with fail
            refine ⟨⟨q+1,some x,by omega,by first | go_num | simp,HS,rfl,rfl,hbz⟩,by simp [RowKit.intOf];omega⟩
          | some y =>
            simp only [Option.getD_some,Option.isSome_some]
            by_cases d:x < y
            ·have HS:Hid (bestTo l left (q+1)=some x):=by show _=_;rw [HY];simp only;rw [if_pos d]
             clear HY;go_wp2_with fail
             refine ⟨⟨q+1,some x,by omega,by first | go_num | simp,HS,rfl,rfl,hbz⟩,by simp [RowKit.intOf];omega⟩
            ·have HS:Hid (bestTo l left (q+1)=some y):=by show _=_;rw [HY];simp only;rw [if_neg d]
             clear HY;go_wp2_with fail
             refine ⟨⟨q+1,some y,by omega,by first | go_num | simp,HS,rfl,rfl,hbz⟩,by simp [RowKit.intOf];omega⟩
     ·obtain rfl:q=c:=by omega
      have jq:¬ (q:Int) < (q:Int):=by omega
      have HBE:Hid (bestL l left=r):=by show _=_;rw [← bestTo_all,HC.out];exact HB.out
      cases r with
      | none =>
        have HE:Hid (orderL nodes l=none):=ordI_none nodes l left out HO.out HNE.out HBE.out;simp only [Option.getD_none,Option.isSome_none];go_wp2_with fail
        go_ret2
        exact ⟨_,by rw [HE.out];rfl,bel_trans hbw hbq,by rw [HE.out];exact World.ownsRow_nil _ _ _ _⟩
      | some b =>
        have HO2:Hid (ordI nodes l (dropI b left) (out++[b])):=ordI_next nodes l left out b HO.out HNE.out HBE.out;have hbl:=((best_some l left b).1 HBE.out).1.1;have hdl:(dropI b left).length < q:=by rw [← HC.out];exact filter_less left b hbl
        simp only [Option.getD_some,Option.isSome_some];have orow2:=owns_below orow hbq;have lrow2:=owns_below hrow hbq;have sz:=(bel_trans hbw hbq).size;go_wp2_with (at_builtin;refine wpList_append_own _ rfl _ _ 22 rfl w.heap.size 3 i0 (.int .i64 0) 1 8 Tryz.underlying22 hi hz0 hz1 hz2 rfl (by decide) _ _ _ rfl (orow2.alloc _) ⟨wB.heap.size,0,none⟩ 1 1 [.int .i64 b] rfl rfl ?d1 ?d2 ?d3 ?d4 ?d5 ?_)
        try
         case d1=>intro j u hj;match j,hj with
          | 0,hj=>simp at hj;subst hj;first | (simp [Addr.add];done) | exact cell_new7 (by simp) rfl
        try
         case d2=>intro u hu;simp at hu;subst hu;rfl
        try
         case d2=>exact rfl
        try
         case d3=>unfold maxLen;omega
        try
         case d4=>omega
        try
         case d5=>first | omega | (simp;done) | (simp;omega)
        intro v3 w3 own3 g3 _;have B3:Below w.heap.size w w3:=((bel_trans hbw hbq).alloc sz _).grown g3 (by simp;omega) (fun j hj=>(orow2.lt j hj).1);have lrow3:=apart11_kept (lrow2.alloc (.cells #[.int .i64 b] 3)) g3 HAP.out;have Tl3:IsInts w3 (.slice (some ⟨gl,0,none⟩) q kl) left:=ints_own lrow3 (by have:=HC.out;omega);go_wp2_with fail
        refine (CW b _ Tl3).mono ?_;rintro e w4 ⟨v4,rfl,b4,own4⟩;have B4:=bel_trans B3 b4;have own5:=owns_below own3 b4;have HAP4:Hid (Apart11 v3 v4):=apart11_low own3 own4 (Nat.le_refl _);have own6:=owns_low own4 B3.size
        obtain ⟨g4,k4,rfl⟩:∃ a k,v4=.slice a (dropI b left).length k:=by
         rcases own4.2 with ⟨rfl,h⟩ | ⟨g,cap,cur,rfl,_⟩
         ·exact ⟨_,_,by rw [h]⟩
         ·exact ⟨_,_,rfl⟩
        have hmeas:slLen (.slice g4 (dropI b left).length k4) < q:=hdl;go_wp2_with fail
        refine ⟨⟨dropI b left,out++[b],HO2,by rw [List.length_append];have:=HC.out;simp;omega,B4,own6,by rw [List.length_append,recV_append];exact own5,HAP4⟩,?_⟩
        first | exact hmeas | (simp [slLen] at hmeas ⊢;omega)
end Go.Proofs.YthamoeekiglphaaGreatDoor
