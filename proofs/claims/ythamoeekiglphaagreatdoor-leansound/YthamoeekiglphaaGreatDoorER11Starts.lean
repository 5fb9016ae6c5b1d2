/-
  What cartoucheref11.starts answers.
-/
import Derived.Test.YthamoeekiglphaaGreatDoorEL0d
import Derived.Laws.AppendOwnNone
namespace Go.Proofs.YthamoeekiglphaaGreatDoor
set_option maxRecDepth 100000
open Go.RowKit
set_option linter.unusedVariables false
set_option linter.unusedSimpArgs false
attribute [local go_sem] ba_size
set_option maxHeartbeats 4000000 in
theorem rstarts_any (vl:Value) (l:List Stp) (w:World) (hT:IsSts w vl l) (hn9:l.length≤1000000000) :
 Calls Tryz.prog 123 #[vl] w fun e w'=>InRow w (startsL l) e w':=by
 obtain ⟨i0,hi,hz0,hz1,hz2⟩:=info_parts int_info;obtain ⟨al,cl,rfl,p1,p2,p3,HL⟩:=hT.reads;obtain ⟨m,hm⟩:∃ m,l.length=m:=⟨_,rfl⟩;have HM:Hid (l.length=m):=hm;rw [hm] at p1 p3 hn9 ⊢;clear hT hm;go_enter Tryz.func123,Tryz.ntmps123
 go_wp2_with fail
 go_loopw [3,4] (fun r i wr=>∃ (k:Nat) (K:List Int),k≤m∧K.length≤k∧i=.int .i64 k∧Hid (startsF [] (l.take k)=K)∧Hid (K.Pairwise (·< ·))∧Below w.heap.size w wr∧Hid (IRow w wr r K)) (fun _ i _=>m - (RowKit.intOf i).toNat)
 case atStart=>exact ⟨0,[],Nat.zero_le _,by simp,rfl,rfl,List.Pairwise.nil,Below.refl _ _,.inl ⟨rfl,rfl⟩⟩
 case round =>
  obtain ⟨k,K,hk,hKk,rfl,HK,HP,hbw,HR⟩:=hrel;obtain ⟨wo,rfl⟩:∃ wo,wo=wr:=⟨_,rfl⟩
  by_cases hlt:k < m
  ·have hk1:k < l.length:=by have:=HM.out;omega
   have jk:(k:Int) < (m:Int):=by omega
   obtain ⟨bs,os,rfl,u,_,C1⟩:=HL.out k hk1;obtain ⟨⟨x,t,E⟩,hy⟩:∃ y,l[k]=y:=⟨_,rfl⟩;have HSn:Hid (startsF [] (l.take (k+1))=insI x K):=by show _=_;rw [List.take_succ_eq_append_getElem hk1,startsF_snoc,HK.out,hy]
   rw [hy] at C1;simp only at C1;have HC1:=Lib.hid C1;clear hy C1;have hlen:=insI_len x K;have T3:=HR.out.ints (by omega);have D:=fun W (hW:Below wo.heap.size wo W)=>rhas_any u3 K x W (T3.below hW)
   obtain ⟨x0,_,_⟩:=HC1.out _ hbw
   by_cases hin:x∈K
   ·have HS2:Hid (startsF [] (l.take (k+1))=K):=by show _=_;rw [HSn.out];exact insI_in x K HP.out hin
    rw [decide_eq_true hin] at D;obtain ⟨au,cu,hu3⟩:∃ a c,u3=.slice a K.length c:=by obtain ⟨a,c,h,_⟩:=T3.some_at;exact ⟨a,c,h⟩
    subst hu3;clear hin;go_wp2_with fail
    refine (D _ (Below.refl _ _)).mono ?_;rintro e w5 ⟨rfl,b5⟩;go_wp2_with fail
    refine ⟨?relZ,?meaZ⟩
    case relZ=>exact ⟨k+1,K,by omega,by omega,by first | go_num | simp,HS2,HP,bel_trans hbw b5,by
     rcases HR.out with h | ⟨h1,h2⟩
     ·exact .inl h
     ·exact .inr ⟨h1,owns_below h2 b5⟩⟩
    case meaZ=>simp [RowKit.intOf];omega
   ·have HNM:Hid (x ∉ K):=hin
    rw [decide_eq_false hin] at D;clear hin;rcases HR.out with ⟨rfl,rfl⟩ | ⟨hpos,hrow⟩
    ·have HS2:Hid (startsF [] (l.take (k+1))=[x]):=HSn.out
     have HP2:Hid ([x].Pairwise (·< ·)):=by show List.Pairwise _ _;simp
     go_wp2_with fail
     refine (D _ (Below.refl _ _)).mono ?_;rintro e w5 ⟨rfl,b5⟩;go_wp2_with fail
     go_loopw [6] (fun i wq=>i=.int .i64 0∧Below wo.heap.size wo wq) (fun i _=>0)
     case atStart=>exact ⟨rfl,b5⟩
     case round =>
      obtain ⟨rfl,hbq⟩:=hrel;go_wp2_with fail
      go_quiet (fail)
      generalize hV:World.drewN _ _=V;have CB:Below wo.heap.size wo V:=by rw [← hV];exact below_drewN hbq _
      clear hV;have E0:(V.alloc (.cells #[] 3)).ownsRow V.heap.size 3 1 (.slice (some ⟨V.heap.size,0,none⟩) 0 0) 0 []:=own_empty8 V 3 1;have CA:=CB.alloc CB.size (.cells #[] 3);obtain ⟨m2,_,_⟩:=HC1.out _ (bel_trans hbw CA);go_wp2_with (at_builtin;refine wpList_append_own _ rfl _ _ 22 rfl V.heap.size 3 i0 (.int .i64 0) 1 8 Tryz.underlying22 hi hz0 hz1 hz2 rfl (by decide) _ _ _ rfl (E0.alloc _) ⟨V.heap.size+1,0,none⟩ 1 1 ([.int .i64 x]) rfl (rfl) ?a1nk ?a2nk ?a3nk ?a4nk ?a5nk ?_)
      try
       case a1nk=>intro j u hj;match j,hj with | 0,hj=>(simp at hj;subst hj;first | (simp [Addr.add];done) | exact cell_new7 (by simp) rfl)
      try
       case a2nk=>intro u hu;simp at hu;subst hu;rfl
      try
       case a3nk=>unfold maxLen;omega
      try
       case a4nk=>omega
      try
       case a5nk=>first | (simp;done) | (simp;omega)
      intro l1 w2 own1 g1 _;have C1:Below wo.heap.size wo w2:=(CA.alloc CA.size _).grown g1 (by have:=CA.size;simp at this ⊢;omega) (fun j hj=>Nat.le_trans CB.size (E0.lt j hj).1);go_wp2_with (at_builtin;refine wpList_append_own_none rfl _ _ 22 rfl V.heap.size 3 i0 1 Tryz.underlying22 hi _ _ _ rfl (own1) rfl ?_)
      go_wp2_with fail
      refine ⟨?relnn,?meann⟩
      case relnn=>exact ⟨k+1,[x],by omega,by have:=hlen;simp at this ⊢<;>omega,by first | go_num | simp,HS2,HP2,bel_trans hbw C1,.inr ⟨by first | (simp;done) | (rw [List.length_append,List.length_cons];omega),owns_low (own1) (by have:=hbw.size;have:=CB.size;omega)⟩⟩
      case meann=>simp [RowKit.intOf];omega
    ·obtain ⟨g,cp,hr3,hc1,hc2⟩:=own_slice11 hrow hpos
     subst hr3;go_wp2_with fail
     refine (D _ (Below.refl _ _)).mono ?_;rintro e w5 ⟨rfl,b5⟩;go_wp2_with fail
     go_loopw [6] (fun i wq=>∃ q:Nat,q≤K.length∧i=.int .i64 q∧Hid (∀ j (hj:j < q),(hK:j < K.length)→K[j]'hK < x)∧Below wo.heap.size wo wq) (fun i _=>K.length - (RowKit.intOf i).toNat)
     case atStart=>exact ⟨0,Nat.zero_le _,rfl,(fun j hj _=>by omega),b5⟩
     case round =>
      obtain ⟨q,hq,rfl,HI,hbq⟩:=hrel
      by_cases hql:q < K.length
      ·have Oq:=owns_below hrow hbq
       have cy:wr.cell? ⟨g,q,none⟩=some (.int .i64 K[q]):=(Oq.cellAt q (by omega)).trans (iV_at K q hql);obtain ⟨ck,_,_⟩:=HC1.out _ (bel_trans hbw hbq);obtain ⟨y,hy⟩:∃ y,K[q]=y:=⟨_,rfl⟩;have HY:Hid (K[q]=y):=hy;rw [hy] at cy;clear hy;have jq:(q:Int) < (K.length:Int):=by omega
       by_cases hL:y < x
       ·have HI':Hid (∀ j (hj:j < q+1),(hK:j < K.length)→K[j]'hK < x):=by
         intro j hj hK;rcases Nat.lt_or_ge j q with h' | h'
         ·exact HI.out j h' hK
         ·obtain rfl:j=q:=by omega
          rw [HY.out];exact hL
        go_wp2_with fail
        go_quiet (fail)
        go_wp2_with fail
        refine ⟨?rels1,?meas1⟩
        case rels1=>exact ⟨q+1,by omega,by first | go_num | simp,HI',below_drewN hbq _⟩
        case meas1=>simp [RowKit.intOf];omega
       ·have HSP:Hid (insI x K=K.take q++x::K.drop q):=insI_split x K q hq (fun j h=>HI.out j h (by omega)) (fun h=>by rw [HY.out];exact hL) HNM.out
        have HS2:Hid (startsF [] (l.take (k+1))=K.take q++x::K.drop q):=by show _=_;rw [HSn.out];exact HSP.out
        have HP2:Hid ((K.take q++x::K.drop q).Pairwise (·< ·)):=by have e:=insI_sorted x K HP.out;rw [HSP.out] at e;exact e
        go_wp2_with fail
        go_quiet (fail)
        generalize hV:World.drewN _ _=V;have CB:Below wo.heap.size wo V:=by rw [← hV];exact below_drewN hbq _
        clear hV cy ck;have E0:(V.alloc (.cells #[] 3)).ownsRow V.heap.size 3 1 (.slice (some ⟨V.heap.size,0,none⟩) 0 0) 0 []:=own_empty8 V 3 1;have CA:=CB.alloc CB.size (.cells #[] 3);have VA:=(Below.refl V.heap.size V).alloc (Nat.le_refl _) (.cells #[] 3);have OV:=owns_below hrow CB;obtain ⟨m2,_,_⟩:=HC1.out _ (bel_trans hbw CA);have q1:(0:Int)≤(q:Int):=by omega
        have q2:q≤cp:=by omega
        have q3:(q:Int)≤(K.length:Int):=by omega
        go_wp2_with (at_builtin;refine wpList_append_own _ rfl _ _ 22 rfl V.heap.size 3 i0 (.int .i64 0) 1 8 Tryz.underlying22 hi hz0 hz1 hz2 rfl (by decide) _ _ _ rfl (E0) ⟨g,0,none⟩ q cp (iV (K.take q)) rfl (by rw [iV_length,List.length_take];omega) ?a1sux ?a2sux ?a3sux ?a4sux ?a5sux ?_)
        try
         case a1sux=>exact isrc_take (owns_below OV VA) q
        try
         case a2sux=>intro u hu;unfold iV at hu;obtain ⟨_,_,rfl⟩:=List.mem_map.1 hu;rfl
        try
         case a3sux=>unfold maxLen;omega
        try
         case a4sux=>omega
        try
         case a5sux=>first | (simp;done) | (simp;omega)
        intro l1 w2 own1 g1 _;have D1:Below V.heap.size V w2:=VA.grown g1 (by simp) (fun j hj=>(E0.lt j hj).1);have C1:=bel_trans CB D1;obtain ⟨n2,_,_⟩:=HC1.out _ (bel_trans hbw C1);go_wp2_with (at_builtin;refine wpList_append_own _ rfl _ _ 22 rfl V.heap.size 3 i0 (.int .i64 0) 1 8 Tryz.underlying22 hi hz0 hz1 hz2 rfl (by decide) _ _ _ rfl (own1.alloc _) ⟨w2.heap.size,0,none⟩ 1 1 ([.int .i64 x]) rfl (rfl) ?a1suy ?a2suy ?a3suy ?a4suy ?a5suy ?_)
        try
         case a1suy=>intro j u hj;match j,hj with | 0,hj=>(simp at hj;subst hj;first | (simp [Addr.add];done) | exact cell_new7 (by simp) rfl)
        try
         case a2suy=>intro u hu;simp at hu;subst hu;rfl
        try
         case a3suy=>unfold maxLen;omega
        try
         case a4suy=>omega
        try
         case a5suy=>have:=D1.size;simp;omega
        intro l2 w3 own2 g2 _;have D2:Below V.heap.size V w3:=(D1.alloc D1.size _).grown g2 (by have:=D1.size;simp;omega) (fun j hj=>(own1.lt j hj).1);have C2:=bel_trans CB D2;go_wp2_with (at_builtin;refine wpList_append_own _ rfl _ _ 22 rfl V.heap.size 3 i0 (.int .i64 0) 1 8 Tryz.underlying22 hi hz0 hz1 hz2 rfl (by decide) _ _ _ rfl (own2) ⟨g,q,none⟩ (K.length - q) (cp - q) (iV (K.drop q)) rfl (by rw [iV_length,List.length_drop];omega) ?a1suz ?a2suz ?a3suz ?a4suz ?a5suz ?_)
        try
         case a1suz=>exact isrc_drop (owns_below OV D2) q
        try
         case a2suz=>intro u hu;unfold iV at hu;obtain ⟨_,_,rfl⟩:=List.mem_map.1 hu;rfl
        try
         case a3suz=>unfold maxLen;omega
        try
         case a4suz=>omega
        try
         case a5suz=>exact D2.size
        intro l3 w4 own3 g3 _;have D3:Below V.heap.size V w4:=D2.grown g3 D2.size (fun j hj=>(own2.lt j hj).1);have C3:=bel_trans CB D3
        have HO:Hid (w4.ownsRow V.heap.size 3 1 l3 (K.take q++x::K.drop q).length (iV (K.take q++x::K.drop q))):=by
         have e1:(K.take q++x::K.drop q).length=q+1+(K.length - q):=by rw [List.length_append,List.length_cons,List.length_take,List.length_drop];omega
         have e2:iV (K.take q++x::K.drop q)=iV (K.take q)++[.int .i64 x]++iV (K.drop q):=by rw [iV_app];simp [iV]
         show World.ownsRow _ _ _ _ _ _ _;rw [e1,e2];have:=own3;simpa [show iV []=[] from rfl] using this
        go_wp2_with fail
        refine ⟨?relsut,?measut⟩
        case relsut=>exact ⟨k+1,K.take q++x::K.drop q,by omega,by have:=hlen;simp at this ⊢<;>omega,by first | go_num | simp,HS2,HP2,bel_trans hbw C3,.inr ⟨by first | (simp;done) | (rw [List.length_append,List.length_cons];omega),owns_low (HO.out) (by have:=hbw.size;have:=CB.size;omega)⟩⟩
        case measut=>simp [RowKit.intOf];omega
      ·obtain rfl:q=K.length:=by omega
       have jq:¬ (K.length:Int) < (K.length:Int):=by omega
       have HSP:Hid (insI x K=K.take K.length++x::K.drop K.length):=insI_split x K K.length (Nat.le_refl _) (fun j h=>HI.out j h h) (fun h=>absurd h (by omega)) HNM.out;have HS2:Hid (startsF [] (l.take (k+1))=K.take K.length++x::K.drop K.length):=by show _=_;rw [HSn.out];exact HSP.out
       have HP2:Hid ((K.take K.length++x::K.drop K.length).Pairwise (·< ·)):=by have e:=insI_sorted x K HP.out;rw [HSP.out] at e;exact e
       go_wp2_with fail
       go_quiet (fail)
       generalize hV:World.drewN _ _=V;have CB:Below wo.heap.size wo V:=by rw [← hV];exact below_drewN hbq _
       clear hV
       by_cases hcp:cp=K.length
       ·subst hcp
        have E0:(V.alloc (.cells #[] 3)).ownsRow V.heap.size 3 1 (.slice (some ⟨V.heap.size,0,none⟩) 0 0) 0 []:=own_empty8 V 3 1;have CA:=CB.alloc CB.size (.cells #[] 3);have VA:=(Below.refl V.heap.size V).alloc (Nat.le_refl _) (.cells #[] 3);have OV:=owns_below hrow CB;obtain ⟨m2,_,_⟩:=HC1.out _ (bel_trans hbw CA);have q1:(0:Int)≤(K.length:Int):=by omega
        have q2:K.length≤K.length:=by omega
        have q3:(K.length:Int)≤(K.length:Int):=by omega
        go_wp2_with (at_builtin;refine wpList_append_own _ rfl _ _ 22 rfl V.heap.size 3 i0 (.int .i64 0) 1 8 Tryz.underlying22 hi hz0 hz1 hz2 rfl (by decide) _ _ _ rfl (E0) ⟨g,0,none⟩ K.length K.length (iV (K.take K.length)) rfl (by rw [iV_length,List.length_take];omega) ?a1svx ?a2svx ?a3svx ?a4svx ?a5svx ?_)
        try
         case a1svx=>exact isrc_take (owns_below OV VA) K.length
        try
         case a2svx=>intro u hu;unfold iV at hu;obtain ⟨_,_,rfl⟩:=List.mem_map.1 hu;rfl
        try
         case a3svx=>unfold maxLen;omega
        try
         case a4svx=>omega
        try
         case a5svx=>first | (simp;done) | (simp;omega)
        intro l1 w2 own1 g1 _;have D1:Below V.heap.size V w2:=VA.grown g1 (by simp) (fun j hj=>(E0.lt j hj).1);have C1:=bel_trans CB D1;obtain ⟨n2,_,_⟩:=HC1.out _ (bel_trans hbw C1);go_wp2_with (at_builtin;refine wpList_append_own _ rfl _ _ 22 rfl V.heap.size 3 i0 (.int .i64 0) 1 8 Tryz.underlying22 hi hz0 hz1 hz2 rfl (by decide) _ _ _ rfl (own1.alloc _) ⟨w2.heap.size,0,none⟩ 1 1 ([.int .i64 x]) rfl (rfl) ?a1svy ?a2svy ?a3svy ?a4svy ?a5svy ?_)
        try
         case a1svy=>intro j u hj;match j,hj with | 0,hj=>(simp at hj;subst hj;first | (simp [Addr.add];done) | exact cell_new7 (by simp) rfl)
        try
         case a2svy=>intro u hu;simp at hu;subst hu;rfl
        try
         case a3svy=>unfold maxLen;omega
        try
         case a4svy=>omega
        try
         case a5svy=>have:=D1.size;simp;omega
        intro l2 w3 own2 g2 _;have D2:Below V.heap.size V w3:=(D1.alloc D1.size _).grown g2 (by have:=D1.size;simp;omega) (fun j hj=>(own1.lt j hj).1);have C2:=bel_trans CB D2;go_wp2_with (at_builtin;refine wpList_append_own _ rfl _ _ 22 rfl V.heap.size 3 i0 (.int .i64 0) 1 8 Tryz.underlying22 hi hz0 hz1 hz2 rfl (by decide) _ _ _ rfl (own2) _ _ _ ([]) rfl rfl ?a1svz ?a2svz ?a3svz ?a4svz ?a5svz ?_)
        try
         case a1svz=>intro j u hj;simp at hj
        try
         case a2svz=>intro u hu;simp at hu
        try
         case a3svz=>unfold maxLen;omega
        try
         case a4svz=>omega
        try
         case a5svz=>exact D2.size
        intro l3 w4 own3 g3 _;have D3:Below V.heap.size V w4:=D2.grown g3 D2.size (fun j hj=>(own2.lt j hj).1);have C3:=bel_trans CB D3
        have HO:Hid (w4.ownsRow V.heap.size 3 1 l3 (K.take K.length++x::K.drop K.length).length (iV (K.take K.length++x::K.drop K.length))):=by
         have e1:(K.take K.length++x::K.drop K.length).length=K.length+1+(K.length - K.length):=by rw [List.length_append,List.length_cons,List.length_take,List.length_drop];omega
         have e2:iV (K.take K.length++x::K.drop K.length)=iV (K.take K.length)++[.int .i64 x]++iV (K.drop K.length):=by rw [iV_app];simp [iV]
         show World.ownsRow _ _ _ _ _ _ _;rw [e1,e2];have:=own3;simpa [show iV []=[] from rfl] using this
        go_wp2_with fail
        refine ⟨?relsvt,?measvt⟩
        case relsvt=>exact ⟨k+1,K.take K.length++x::K.drop K.length,by omega,by have:=hlen;simp at this ⊢<;>omega,by first | go_num | simp,HS2,HP2,bel_trans hbw C3,.inr ⟨by first | (simp;done) | (rw [List.length_append,List.length_cons];omega),owns_low (HO.out) (by have:=hbw.size;have:=CB.size;omega)⟩⟩
        case measvt=>simp [RowKit.intOf];omega
       ·have hcl:K.length < cp:=by omega
        have E0:(V.alloc (.cells #[] 3)).ownsRow V.heap.size 3 1 (.slice (some ⟨V.heap.size,0,none⟩) 0 0) 0 []:=own_empty8 V 3 1;have CA:=CB.alloc CB.size (.cells #[] 3);have VA:=(Below.refl V.heap.size V).alloc (Nat.le_refl _) (.cells #[] 3);have OV:=owns_below hrow CB;obtain ⟨m2,_,_⟩:=HC1.out _ (bel_trans hbw CA);have q1:(0:Int)≤(K.length:Int):=by omega
        have q2:K.length≤cp:=by omega
        have q3:(K.length:Int)≤(K.length:Int):=by omega
        go_wp2_with (at_builtin;refine wpList_append_own _ rfl _ _ 22 rfl V.heap.size 3 i0 (.int .i64 0) 1 8 Tryz.underlying22 hi hz0 hz1 hz2 rfl (by decide) _ _ _ rfl (E0) ⟨g,0,none⟩ K.length cp (iV (K.take K.length)) rfl (by rw [iV_length,List.length_take];omega) ?a1swx ?a2swx ?a3swx ?a4swx ?a5swx ?_)
        try
         case a1swx=>exact isrc_take (owns_below OV VA) K.length
        try
         case a2swx=>intro u hu;unfold iV at hu;obtain ⟨_,_,rfl⟩:=List.mem_map.1 hu;rfl
        try
         case a3swx=>unfold maxLen;omega
        try
         case a4swx=>omega
        try
         case a5swx=>first | (simp;done) | (simp;omega)
        intro l1 w2 own1 g1 _;have D1:Below V.heap.size V w2:=VA.grown g1 (by simp) (fun j hj=>(E0.lt j hj).1);have C1:=bel_trans CB D1;obtain ⟨n2,_,_⟩:=HC1.out _ (bel_trans hbw C1);go_wp2_with (at_builtin;refine wpList_append_own _ rfl _ _ 22 rfl V.heap.size 3 i0 (.int .i64 0) 1 8 Tryz.underlying22 hi hz0 hz1 hz2 rfl (by decide) _ _ _ rfl (own1.alloc _) ⟨w2.heap.size,0,none⟩ 1 1 ([.int .i64 x]) rfl (rfl) ?a1swy ?a2swy ?a3swy ?a4swy ?a5swy ?_)
        try
         case a1swy=>intro j u hj;match j,hj with | 0,hj=>(simp at hj;subst hj;first | (simp [Addr.add];done) | exact cell_new7 (by simp) rfl)
        try
         case a2swy=>intro u hu;simp at hu;subst hu;rfl
        try
         case a3swy=>unfold maxLen;omega
        try
         case a4swy=>omega
        try
         case a5swy=>have:=D1.size;simp;omega
        intro l2 w3 own2 g2 _;have D2:Below V.heap.size V w3:=(D1.alloc D1.size _).grown g2 (by have:=D1.size;simp;omega) (fun j hj=>(own1.lt j hj).1);have C2:=bel_trans CB D2;go_wp2_with (at_builtin;refine wpList_append_own _ rfl _ _ 22 rfl V.heap.size 3 i0 (.int .i64 0) 1 8 Tryz.underlying22 hi hz0 hz1 hz2 rfl (by decide) _ _ _ rfl (own2) _ _ _ ([]) rfl rfl ?a1swz ?a2swz ?a3swz ?a4swz ?a5swz ?_)
        try
         case a1swz=>intro j u hj;simp at hj
        try
         case a2swz=>intro u hu;simp at hu
        try
         case a3swz=>unfold maxLen;omega
        try
         case a4swz=>omega
        try
         case a5swz=>exact D2.size
        intro l3 w4 own3 g3 _;have D3:Below V.heap.size V w4:=D2.grown g3 D2.size (fun j hj=>(own2.lt j hj).1);have C3:=bel_trans CB D3
        have HO:Hid (w4.ownsRow V.heap.size 3 1 l3 (K.take K.length++x::K.drop K.length).length (iV (K.take K.length++x::K.drop K.length))):=by
         have e1:(K.take K.length++x::K.drop K.length).length=K.length+1+(K.length - K.length):=by rw [List.length_append,List.length_cons,List.length_take,List.length_drop];omega
         have e2:iV (K.take K.length++x::K.drop K.length)=iV (K.take K.length)++[.int .i64 x]++iV (K.drop K.length):=by rw [iV_app];simp [iV]
         show World.ownsRow _ _ _ _ _ _ _;rw [e1,e2];have:=own3;simpa [show iV []=[] from rfl] using this
        go_wp2_with fail
        refine ⟨?relswt,?measwt⟩
        case relswt=>exact ⟨k+1,K.take K.length++x::K.drop K.length,by omega,by have:=hlen;simp at this ⊢<;>omega,by first | go_num | simp,HS2,HP2,bel_trans hbw C3,.inr ⟨by first | (simp;done) | (rw [List.length_append,List.length_cons];omega),owns_low (HO.out) (by have:=hbw.size;have:=CB.size;omega)⟩⟩
        case measwt=>simp [RowKit.intOf];omega
  ·obtain rfl:k=m:=by omega
   have jk:¬ (k:Int) < (k:Int):=by omega
   have HE:Hid (startsL l=K):=by
    have:=HK.out;rw [List.take_of_length_le (by have:=HM.out;omega)] at this;exact this
   go_wp2_with fail
   go_ret
   refine ⟨_,rfl,hbw,?_⟩;rw [HE.out];rcases HR.out with ⟨hr,hK⟩ | ⟨_,hrow⟩
   ·rw [hr,hK];exact World.ownsRow_nil _ _ _ _
   ·rw [iV_rec];exact hrow
end Go.Proofs.YthamoeekiglphaaGreatDoor
