/-
  An order has each node once; with steps left out it is forward still: in lists. What cartoucheref10.Nodes answers. The walk of CheckNodes.
-/
import Derived.Test.YtdlcimfifkhllaaGreatCL0d
import Derived.Deep.RegionHeld3
namespace Go.Proofs.YtdlcimfifkhllaaGreat
set_option maxRecDepth 100000
set_option linter.unusedVariables false
def cnT (o:List Int) (x:Int) (m:Nat):Nat:=(o.take m).count x
theorem cnT_yes (o:List Int) (x:Int) (m:Nat) (hm:m < o.length) (h:o[m]=x):cnT o x (m+1)=cnT o x m+1:=by
 unfold cnT
 rw [List.take_succ_eq_append_getElem hm,List.count_append,h]
 simp
theorem cnT_no (o:List Int) (x:Int) (m:Nat) (hm:m < o.length) (h:o[m]≠x):cnT o x (m+1)=cnT o x m:=by
 unfold cnT
 rw [List.take_succ_eq_append_getElem hm,List.count_append,List.count_singleton]
 simp [h]
open Go.RowKit
attribute [local go_sem] ba_size
theorem recN_snoc (L:List Int) (x:Int):recV intV (L++[x])=recV intV L++[.int .i64 x]:=by rw [recV_append];rfl
set_option maxHeartbeats 4000000 in
theorem rnodes_any (h:List Ev) (v:Value) (w:World) (hT:IsEvs w v h) :
 Calls Tryz.prog 21 #[v] w fun e w'=>InRow w (nodeL h) e w':=by
 obtain ⟨i0,hi,hz0,hz1,hz2⟩:=info_parts int_info
 have C1:=fun (t:Int) W hW=>rcomm_any h v W (hT.below (w':=W) hW) t
 obtain ⟨a,cap,rfl,h1,h2,h3,HC⟩:=hT.reads
 obtain ⟨n,hn⟩:∃ n,h.length=n:=⟨_,rfl⟩
 have HN:Hid (h.length=n):=hn
 simp only [hn] at C1
 rw [hn] at h1 h3 ⊢
 clear hT hn
 go_enter Tryz.func21,Tryz.ntmps21
 go_wp2_with fail
 go_loopw [3,4] (fun r i wr=>∃ (k c:Nat),k≤301∧c≤k∧i=.int .i64 ((k:Int) - 1)∧Hid ((ndL h k).length=c)∧Below w.heap.size w wr∧wr.ownsRow w.heap.size 3 1 r c (recV intV (ndL h k))) (fun _ i _=>(301 - (intOf i+1)).toNat)
 case atStart=>exact ⟨0,0,by omega,by omega,rfl,rfl,Below.refl _ _,World.ownsRow_nil _ _ _ _⟩
 case round =>
  obtain ⟨k,c,hk,hc,rfl,HL,hbw,hrow⟩:=hrel
  obtain ⟨wo,rfl⟩:∃ x,x=wr:=⟨_,rfl⟩
  by_cases hlt:k < 301
  ·have j0:(k:Int) - 1 < 300:=by omega
   obtain ⟨t,ht⟩:∃ t,(k:Int) - 1=t:=⟨_,rfl⟩
   have HT:Hid ((k:Int) - 1=t):=ht
   rw [ht] at j0 ⊢
   clear ht
   have ht1:-1≤t∧t < 300:=by have:=HT.out;omega
   go_wp2_with fail
   go_loopw [5,6] (fun hs i wq=>∃ q:Nat,q≤n∧i=.int .i64 q∧hs=.bool (fstL h t q).isSome∧Below wo.heap.size wo wq) (fun _ i _=>n - (intOf i).toNat)
   case atStart=>exact ⟨0,Nat.zero_le _,rfl,rfl,Below.refl _ _⟩
   case round =>
    obtain ⟨q,hq,rfl,rfl,hbq⟩:=hrel
    by_cases hqn:q < n
    ·have hq1:q < h.length:=by have:=HN.out;omega
     obtain ⟨bb,off,rfl,HQ⟩:=HC.out (by have:=HN.out;omega)
     have c1:=(HQ.out q hq1 _ (bel_trans hbw hbq)).2.1
     obtain ⟨x1,hx⟩:∃ x,(ev h q).2.1=x:=⟨_,rfl⟩
     have HX:Hid ((ev h q).2.1=x1):=hx
     rw [hx] at c1
     clear hx
     cases hf:fstL h t q with
     | some f =>
       have HF:Hid (fstL h t (q+1)=some f):=fstL_old h t q f hf
       clear hf
       simp only [Option.isSome_some]
       go_wp2_with fail
       refine ⟨⟨q+1,by omega,by first | go_num | simp,by rw [HF.out];rfl,hbq⟩,by simp [intOf];omega⟩
     | none =>
       simp only [Option.isSome_none]
       by_cases d:x1=t
       ·have e1:(x1==t)=true:=by rw [d];exact beq_self_eq_true _
        have HF:Hid (fstL h t (q+1)=some q):=fstL_new h t q hf (by rw [HX.out];exact d)
        clear hf d
        go_wp2_with fail
        refine ⟨⟨q+1,by omega,by first | go_num | simp,by rw [HF.out];rfl,hbq⟩,by simp [intOf];omega⟩
       ·have e1:(x1==t)=false:=beq_eq_false_iff_ne.2 d
        have HF:Hid (fstL h t (q+1)=none):=fstL_skip h t q hf (by rw [HX.out];exact d)
        clear hf d
        go_wp2_with fail
        refine ⟨⟨q+1,by omega,by first | go_num | simp,by rw [HF.out];rfl,hbq⟩,by simp [intOf];omega⟩
    ·obtain rfl:q=n:=by omega
     have B1:=bel_trans hbw hbq
     have hrowq:=owns_below hrow hbq
     have HK:Hid (ndOf h k=if commL h t=none then none else some t):=by show _=_;unfold ndOf;rw [HT.out]
     cases hf:fstL h t q with
     | none =>
       have HE:Hid (ndL h (k+1)=ndL h k):=by
        show _=_
        rw [nd_next,HK.out,if_pos (comm_has h t (by rw [HN.out];exact hf))]
        simp
       clear hf
       simp only [Option.isSome_none]
       go_wp2_with fail
       refine ⟨⟨k+1,c,by omega,by omega,by have:=HT.out;simp;omega,by rw [HE.out];exact HL.out,B1,by rw [HE.out];exact hrowq⟩,by have:=HT.out;simp [intOf];omega⟩
     | some f =>
       simp only [Option.isSome_some]
       go_wp2_with fail
       refine (C1 t _ B1).mono ?_
       rintro e w1 ⟨rfl,b1⟩
       have B2:=bel_trans B1 b1
       have hrow1:=owns_below hrowq b1
       clear hf
       rcases hcm:commL h t with _ | e
       ·have HE:Hid (ndL h (k+1)=ndL h k):=by
         show _=_
         rw [nd_next,HK.out,if_pos hcm]
         simp
        simp only [oI]
        clear hcm
        go_wp2_with fail
        refine ⟨⟨k+1,c,by omega,by omega,by have:=HT.out;simp;omega,by rw [HE.out];exact HL.out,B2,by rw [HE.out];exact hrow1⟩,by have:=HT.out;simp [intOf];omega⟩
       ·have HE:Hid (ndL h (k+1)=ndL h k++[t]):=by
         show _=_
         rw [nd_next,HK.out,if_neg (by rw [hcm];simp)]
         rfl
        simp only [oI]
        clear hcm
        have je:(0:Int)≤(e:Int):=by omega
        have hsz1:=B2.size
        go_wp2_with (at_builtin;refine wpList_append_own _ rfl _ _ 23 rfl w.heap.size 3 i0 (.int .i64 0) 1 8 Tryz.underlying23 hi hz0 hz1 hz2 rfl (by decide) _ _ _ rfl (hrow1.alloc _) ⟨w1.heap.size,0,none⟩ 1 1 [.int .i64 t] rfl rfl ?a1 ?a2 ?a3 ?a4 ?a5 ?_)
        case a1=>intro j u hj;match j,hj with
         | 0,hj=>simp at hj;subst hj;simp [Addr.add]
        case a2=>intro u hu;simp at hu;subst hu;rfl
        case a3=>unfold maxLen;omega
        case a4=>omega
        case a5=>simp;omega
        intro v' w2 hown2 hg2 _
        have B3:Below w.heap.size w w2:=(B2.alloc B2.size _).grown hg2 (by simp;omega) (fun j hj=>(hrow1.lt j hj).1)
        go_wp2_with fail
        refine ⟨⟨k+1,c+1,by omega,by omega,by have:=HT.out;simp;omega,by rw [HE.out,List.length_append,HL.out];rfl,B3,by rw [HE.out,recN_snoc];exact hown2⟩,by have:=HT.out;simp [intOf];omega⟩
  ·obtain rfl:k=301:=by omega
   go_wp2_with fail
   go_ret
   refine ⟨_,rfl,hbw,?_⟩
   show World.ownsRow _ _ _ _ _ (ndL h 301).length (recV intV (ndL h 301))
   rw [HL.out]
   exact hrow
set_option maxHeartbeats 4000000 in
theorem nodes13_walk (C:P13C) (w:World) (vh:Value) (h:List Ev) (Th:IsEvs w vh h) (Gh:∀ x∈h,goodE x) (level:Int) (gl:okN level) (vo:Value) (o:List Int) (To:IsInts w vo o) (Go:∀ x∈o,okN x) :
 Calls Tryz.prog 9 #[vh,.int .i64 level,vo] w fun e w'=>e=.returned (.bool true)∧Below w.heap.size w w':=by
 have HSh:Hid (∀ W,Below w.heap.size w W→Calls Tryz.prog 10 #[] W fun e w'=>e=.returned (.bool true)∧Below W.heap.size W w'):=fun W h=>shown13_any C W
 have HF:Hid (∀ W,Below w.heap.size w W→Calls Tryz.prog 11 #[vh] W fun e w'=>e=.returned (.bool (decide (fewK h)))∧Below W.heap.size W w'):=fun W hb=>few13_any vh h W (Th.below hb)
 by_cases h1:fewK h
 ·rw [decide_eq_true h1] at HF
  by_cases ho:o.length≤100
  ·skip
   have HA:Hid (∀ W,Below w.heap.size w W→Calls Tryz.prog 14 #[vh,.int .i64 level,vo] W fun e w'=>e=.returned (.bool (aheadB h level o))∧Below W.heap.size W w'):=fun W hb=>C.ahead h vh vo level o W (Th.below hb) Gh h1.few gl Go (To.below hb) (by omega)
   have HN:Hid (∀ W,Below w.heap.size w W→Calls Tryz.prog 21 #[vh] W fun e w'=>InRow W (nodeL h) e w'):=fun W hb=>rnodes_any h vh W (Th.below hb)
   have hon:=ahead_once h level o
   have hnl:(nodeL h).length≤301:=nd_len h 301
   obtain ⟨NL,hNL⟩:∃ y,nodeL h=y:=⟨_,rfl⟩
   rw [hNL] at HN hon hnl
   obtain ⟨ka,hka⟩:∃ y,aheadB h level o=y:=⟨_,rfl⟩
   rw [hka] at HA hon
   clear hka hNL
   cases ka with
   | false =>
     clear hon
     obtain ⟨ao,co,rfl,i_o,j_o,k_o,HCo⟩:=IsInts.reads To
     obtain ⟨no,hno⟩:∃ m,o.length=m:=⟨_,rfl⟩
     obtain ⟨ah,ch,rfl,ih,jh,kh,HCh⟩:=Th.reads
     obtain ⟨n,hn⟩:∃ n,h.length=n:=⟨_,rfl⟩
     rw [hno] at i_o k_o
     simp only [hno,hn] at HF HA HN ho ⊢
     have j2:¬ (100:Int) < (no:Int):=by omega
     clear hno hn To Th HCh
     go_enter Tryz.func9,Tryz.ntmps9
     go_wp2_with fail
     refine (HSh.out _ (Below.refl w.heap.size w)).mono ?_
     rintro e w1 ⟨rfl,b1⟩
     have B1:=bel_trans (Below.refl w.heap.size w) b1
     go_wp2_with fail
     refine (HF.out _ B1).mono ?_
     rintro e w2 ⟨rfl,b2⟩
     have B2:=bel_trans B1 b2
     go_wp2_with fail
     refine (HA.out _ B2).mono ?_
     rintro e w3 ⟨rfl,b3⟩
     have B3:=bel_trans B2 b3
     go_wp2_with fail
     go_ret
     exact ⟨rfl,B3⟩
   | true =>
     obtain ⟨hol,hct⟩:=hon rfl
     have HCN:Hid (∀ y∈NL,cnT o y o.length=1):=fun y hy=>by
      unfold cnT
      rw [List.take_length]
      exact hct y hy
     have HOL:Hid (o.length=NL.length):=hol.symm
     clear hon hol hct
     obtain ⟨ao,co,rfl,i_o,j_o,k_o,HCo⟩:=IsInts.reads To
     obtain ⟨no,hno⟩:∃ m,o.length=m:=⟨_,rfl⟩
     obtain ⟨ah,ch,rfl,ih,jh,kh,HCh⟩:=Th.reads
     obtain ⟨n,hn⟩:∃ n,h.length=n:=⟨_,rfl⟩
     have HNO:Hid (o.length=no):=hno
     rw [hno] at i_o k_o
     rw [hno] at HA ho ⊢
     rw [hn] at HF HA HN ⊢
     have j2:¬ (100:Int) < (no:Int):=by omega
     clear hno hn To Th HCh
     go_enter Tryz.func9,Tryz.ntmps9
     go_wp2_with fail
     refine (HSh.out _ (Below.refl w.heap.size w)).mono ?_
     rintro e w1 ⟨rfl,b1⟩
     have B1:=bel_trans (Below.refl w.heap.size w) b1
     go_wp2_with fail
     refine (HF.out _ B1).mono ?_
     rintro e w2 ⟨rfl,b2⟩
     have B2:=bel_trans B1 b2
     go_wp2_with fail
     refine (HA.out _ B2).mono ?_
     rintro e w3 ⟨rfl,b3⟩
     have B3:=bel_trans B2 b3
     go_wp2_with fail
     refine (HN.out _ B3).mono ?_
     rintro e w4 ⟨vn,rfl,b4,o4⟩
     have B4:=bel_trans B3 b4
     have T_n:IsInts w4 vn NL:=IsRec.own (L:=NL) intV_len (by omega) o4 (by omega)
     obtain ⟨a_n,c_n,rfl,i_n,j_n,k_n,HCn⟩:=IsInts.reads T_n
     obtain ⟨nn,hnn⟩:∃ nn,NL.length=nn:=⟨_,rfl⟩
     have HNN:Hid (NL.length=nn):=hnn
     have e_len:((nn:Int) != (no:Int))=false:=by rw [← hnn,← HOL.out,HNO.out];exact bne_self_eq_false _
     rw [hnn] at i_n k_n hnl ⊢
     clear hnn T_n o4
     go_wp2_with fail
     go_loopw [10] (fun kv wr=>∃ k:Nat,k≤nn∧kv=.int .i64 k∧Below w4.heap.size w4 wr) (fun kv _=>nn - (intOf kv).toNat)
     case atStart=>exact ⟨0,Nat.zero_le _,rfl,Below.refl _ _⟩
     case round =>
      obtain ⟨wA,rfl⟩:∃ wA,wA=wr:=⟨_,rfl⟩
      obtain ⟨k,hk,rfl,hbk⟩:=hrel
      by_cases hlk:k < nn
      ·have jk:(k:Int) < (nn:Int):=by omega
       have jwk:IntKind.i64.wrap ((k:Int)+1)=(k:Int)+1:=by rw [IntKind.wrap_i64];omega
       obtain ⟨bn,on,rfl,HQn⟩:=HCn.out (by have:=HNN.out;omega)
       have HX1:Hid (cnT o (NL.getD k 0) o.length=1):=HCN.out _ (by
        have:k < NL.length:=by have:=HNN.out;omega
        rw [List.getD_eq_getElem?_getD,List.getElem?_eq_getElem this]
        exact List.getElem_mem _)
       have HXC:Hid (∀ V,Below w4.heap.size w4 V→V.cell? ⟨bn,on+k,none⟩=some (.int .i64 (NL.getD k 0))):=fun V hV=>HQn.out k (by have:=HNN.out;omega) V hV
       obtain ⟨x,hx⟩:∃ x,NL.getD k 0=x:=⟨_,rfl⟩
       rw [hx] at HX1 HXC
       clear hx
       go_wp2_with fail
       go_loopw [11,12] (fun mv iv wr=>∃ m c:Nat,m≤no∧c≤m∧iv=.int .i64 m∧mv=.int .i64 c∧Hid (cnT o x m=c)∧Below w4.heap.size w4 wr) (fun _ iv _=>no - (intOf iv).toNat)
       case atStart=>exact ⟨0,0,Nat.zero_le _,Nat.le_refl _,rfl,rfl,by show _=_;unfold cnT;simp,hbk⟩
       case round =>
        obtain ⟨m,c,hm,hc,rfl,rfl,HCM,hbm⟩:=hrel
        by_cases hlm:m < no
        ·have jm:(m:Int) < (no:Int):=by omega
         have jwm:IntKind.i64.wrap ((m:Int)+1)=(m:Int)+1:=by rw [IntKind.wrap_i64];omega
         have jwc:IntKind.i64.wrap ((c:Int)+1)=(c:Int)+1:=by rw [IntKind.wrap_i64];omega
         have hmo:m < o.length:=by have:=HNO.out;omega
         obtain ⟨bo,oo,rfl,HQo⟩:=HCo.out (by omega)
         have c1:=HQo.out m hmo _ (bel_trans B4 hbm)
         have c2:=HXC.out _ hbm
         have HY:=cnT_yes o x m hmo
         have HNo:=cnT_no o x m hmo
         have ey:o.getD m 0=o[m]:=by rw [List.getD_eq_getElem?_getD,List.getElem?_eq_getElem hmo];rfl
         rw [ey] at c1
         obtain ⟨y,hy⟩:∃ y,o[m]=y:=⟨_,rfl⟩
         rw [hy] at c1 HY HNo
         clear hy ey hmo
         by_cases hxy:y=x
         ·have HZ:Hid (cnT o x (m+1)=c+1):=by show _=_;rw [HY hxy,HCM.out]
          subst hxy
          clear HY HNo
          go_wp2_with fail
          go_quiet (fail)
          go_wp2_with fail
          refine ⟨⟨m+1,c+1,by omega,by omega,by first | go_num | simp,by first | go_num | simp,HZ,below_drewN hbm _⟩,by simp [intOf];omega⟩
         ·have HZ:Hid (cnT o x (m+1)=c):=by show _=_;rw [HNo hxy,HCM.out]
          have hxy2:(y==x)=false:=beq_eq_false_iff_ne.2 hxy
          clear HY HNo hxy
          go_wp2_with fail
          go_quiet (fail)
          go_wp2_with fail
          refine ⟨⟨m+1,c,by omega,by omega,by first | go_num | simp,rfl,HZ,below_drewN hbm _⟩,by simp [intOf];omega⟩
        ·obtain rfl:m=no:=by omega
         have jm:¬ (m:Int) < (m:Int):=by omega
         have hc1:c=1:=by have:=HX1.out;rw [HNO.out,HCM.out] at this;exact this
         subst hc1
         go_wp2_with fail
         refine ⟨⟨k+1,by omega,by first | go_num | simp,hbm⟩,by simp [intOf];omega⟩
      ·obtain rfl:k=nn:=by omega
       have jk:¬ (k:Int) < (k:Int):=by omega
       go_wp2_with fail
       go_ret
       exact ⟨rfl,bel_trans B4 hbk⟩
  ·skip
   obtain ⟨ao,co,rfl,i_o,j_o,k_o,HCo⟩:=IsInts.reads To
   obtain ⟨no,hno⟩:∃ m,o.length=m:=⟨_,rfl⟩
   obtain ⟨ah,ch,rfl,ih,jh,kh,HCh⟩:=Th.reads
   obtain ⟨n,hn⟩:∃ n,h.length=n:=⟨_,rfl⟩
   rw [hno] at i_o k_o
   simp only [hno,hn] at HF ho ⊢
   have j2:(100:Int) < (no:Int):=by omega
   clear hno hn To Th HCh
   go_enter Tryz.func9,Tryz.ntmps9
   go_wp2_with fail
   refine (HSh.out _ (Below.refl w.heap.size w)).mono ?_
   rintro e w1 ⟨rfl,b1⟩
   have B1:=bel_trans (Below.refl w.heap.size w) b1
   go_wp2_with fail
   refine (HF.out _ B1).mono ?_
   rintro e w2 ⟨rfl,b2⟩
   have B2:=bel_trans B1 b2
   go_wp2_with fail
   go_ret
   exact ⟨rfl,B2⟩
 ·rw [decide_eq_false h1] at HF
  obtain ⟨ao,co,rfl,i_o,j_o,k_o,HCo⟩:=IsInts.reads To
  obtain ⟨no,hno⟩:∃ m,o.length=m:=⟨_,rfl⟩
  obtain ⟨ah,ch,rfl,ih,jh,kh,HCh⟩:=Th.reads
  obtain ⟨n,hn⟩:∃ n,h.length=n:=⟨_,rfl⟩
  rw [hno] at i_o k_o
  simp only [hno,hn] at HF ⊢
  clear hno hn To Th HCh
  go_enter Tryz.func9,Tryz.ntmps9
  go_wp2_with fail
  refine (HSh.out _ (Below.refl w.heap.size w)).mono ?_
  rintro e w1 ⟨rfl,b1⟩
  have B1:=bel_trans (Below.refl w.heap.size w) b1
  go_wp2_with fail
  refine (HF.out _ B1).mono ?_
  rintro e w2 ⟨rfl,b2⟩
  have B2:=bel_trans B1 b2
  go_wp2_with fail
  go_ret
  exact ⟨rfl,B2⟩
end Go.Proofs.YtdlcimfifkhllaaGreat
