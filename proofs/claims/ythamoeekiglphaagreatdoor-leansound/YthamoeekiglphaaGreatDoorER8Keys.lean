/-
  What cartoucheref08.Keys answers.
-/
import Derived.Test.YthamoeekiglphaaGreatDoorEL0d
import Derived.Laws.AppendOwnNone
namespace Go.Proofs.YthamoeekiglphaaGreatDoor
set_option maxRecDepth 100000
open Go.RowKit
set_option linter.unusedVariables false
attribute [local go_sem] ba_size
theorem str_info8:(Tryz.prog.info? 9).map (fun i=>(i.zero,i.size,i.bytes))=some (some (.string ByteArray.empty),1,16):=by kernel_rfl
theorem str_own_empty (w:World):(w.alloc (.cells #[] 9)).ownsRow w.heap.size 9 1 (.slice (some ⟨w.heap.size,0,none⟩) 0 0) 0 (strV []) :=
 ⟨by simp [strV],.inr ⟨w.heap.size,0,#[],rfl,Nat.le_refl _,SBox.new w 9 #[],Nat.le_refl _,by unfold maxLen;omega,by simp,by simp [strV]⟩⟩
theorem own_low8 {w:World} {B B' e k n:Nat} {v:Value} {xs:List Value} (h:w.ownsRow B e k v n xs) (hb:B'≤B):w.ownsRow B' e k v n xs:=by
 obtain ⟨h1,h2⟩:=h;refine ⟨h1,?_⟩;rcases h2 with h2 | ⟨g,cap,cur,hv,hbg,r⟩
 ·exact .inl h2
 ·exact .inr ⟨g,cap,cur,hv,by omega,r⟩
theorem own_slice8 {W:World} {B e k n:Nat} {v:Value} {xs:List Value} (h:W.ownsRow B e k v n xs) (h0:0 < n):∃ g c,v=.slice (some ⟨g,0,none⟩) n c∧n≤c∧c≤9223372036854775807:=by
 rcases h.2 with ⟨_,hn⟩ | ⟨g,cap,cur,rfl,_,_,hc,hm,_⟩
 ·omega
 ·exact ⟨_,_,rfl,hc,by unfold maxLen at hm;omega⟩
theorem strV_take (K:List (List UInt8)) (q:Nat):strV (K.take q)=(strV K).take q:=by unfold strV;rw [List.map_take]
theorem strV_drop (K:List (List UInt8)) (q:Nat):strV (K.drop q)=(strV K).drop q:=by unfold strV;rw [List.map_drop]
theorem strV_app (K M:List (List UInt8)):strV (K++M)=strV K++strV M:=by unfold strV;rw [List.map_append]
theorem strV_at (K:List (List UInt8)) (i:Nat) (h:i < K.length):(strV K)[i]?=some (.string ⟨K[i].toArray⟩):=by unfold strV;simp [h]
theorem src_take {W:World} {B g cp:Nat} {K:List (List UInt8)} (h:W.ownsRow B 9 1 (.slice (some ⟨g,0,none⟩) K.length cp) K.length (strV K)) (q:Nat):∀ j u,(strV (K.take q))[j]?=some u→W.cell? ((⟨g,0,none⟩:Addr).add j)=some u:=by
 intro j u hj;have hl:=(List.getElem?_eq_some_iff.1 hj).1;rw [strV_length,List.length_take] at hl;rw [strV_take,List.getElem?_take_of_lt (by omega)] at hj;have e:=h.cellAt j (by omega);rw [hj] at e;have ea:(⟨g,0,none⟩:Addr).add j=⟨g,j,none⟩:=by simp [Addr.add];try omega
 rw [ea];exact e
theorem src_drop {W:World} {B g cp:Nat} {K:List (List UInt8)} (h:W.ownsRow B 9 1 (.slice (some ⟨g,0,none⟩) K.length cp) K.length (strV K)) (q:Nat):∀ j u,(strV (K.drop q))[j]?=some u→W.cell? ((⟨g,q,none⟩:Addr).add j)=some u:=by
 intro j u hj;rw [strV_drop,List.getElem?_drop] at hj;have hl:=(List.getElem?_eq_some_iff.1 hj).1;rw [strV_length] at hl;have e:=h.cellAt (q+j) (by omega);rw [hj] at e;have ea:(⟨g,q,none⟩:Addr).add j=⟨g,q+j,none⟩:=by simp [Addr.add]
 rw [ea];exact e
def KRow (w W:World) (r:Value) (K:List (List UInt8)):Prop:=(r=.slice none 0 0∧K=[])∨(0 < K.length∧W.ownsRow w.heap.size 9 1 r K.length (strV K))
def TxRow (w:World) (K:List (List UInt8)) (e:Ending) (w':World):Prop:=∃ v,e=.returned v∧Below w.heap.size w w'∧w'.ownsRow w.heap.size 9 1 v K.length (strV K)
set_option maxHeartbeats 4000000 in
theorem rkeys_any (h:List Ev) (v:Value) (w:World) (hT:IsEvs w v h) (hle:h.length≤300) (hG:∀ x∈h,x.2.2.1.length≤1125899906842624) :
 Calls Tryz.prog 93 #[v] w fun e w'=>TxRow w (keysL h) e w':=by
 obtain ⟨i0,hi,hz0,hz1,hz2⟩:=info_parts str_info8;obtain ⟨a,cap,rfl,h1,h2,h3,HC⟩:=hT.reads;obtain ⟨n,hn⟩:∃ n,h.length=n:=⟨_,rfl⟩;have HN:Hid (h.length=n):=hn;rw [hn] at h1 h3 hle ⊢;clear hT hn;go_enter Tryz.func93,Tryz.ntmps93
 go_wp2_with fail
 go_loopw [3,4] (fun r i wr=>∃ (k:Nat) (K:List (List UInt8)),k≤n∧K.length≤k∧i=.int .i64 k∧Hid (keysF [] (h.take k)=K)∧Hid (∀ t∈K,t.length≤1125899906842624)∧Below w.heap.size w wr∧Hid (KRow w wr r K)) (fun _ i _=>n - (RowKit.intOf i).toNat)
 case atStart=>exact ⟨0,[],Nat.zero_le _,Nat.zero_le _,rfl,(by show keysF [] _=_;rw [List.take_zero];rfl),(fun t ht=>by cases ht),Below.refl _ _,.inl ⟨rfl,rfl⟩⟩
 case round =>
  obtain ⟨k,K,hk,hKk,rfl,HK,HB,hbw,HR⟩:=hrel;obtain ⟨wo,rfl⟩:∃ x,x=wr:=⟨_,rfl⟩
  by_cases hlt:k < n
  ·have hk1:k < h.length:=by have:=HN.out;omega
   have HS:Hid (∀ M,(if keyedE (ev h k).1 then insK (ev h k).2.2.1 K else K)=M→keysF [] (h.take (k+1))=M):=by
    intro M hM;rw [List.take_succ_eq_append_getElem hk1,keysF_snoc,HK.out,← ev_get h k hk1];exact hM
   have lk:(ev h k).2.2.1.length≤1125899906842624:=by rw [ev_get h k hk1];exact hG _ (List.getElem_mem hk1)
   obtain ⟨bb,off,rfl,HQ⟩:=HC.out (by omega);obtain ⟨c0,c1,c2,c3⟩:=HQ.out k hk1 _ hbw;obtain ⟨⟨x0,x1,x2,x3⟩,hx⟩:∃ x,ev h k=x:=⟨_,rfl⟩;have HX:Hid (ev h k=(x0,x1,x2,x3)):=hx;rw [hx] at c0 c1 c2 c3 lk HS;simp only at c0 c1 c2 c3 lk HS;clear hx
   by_cases hke:x0=2∨x0=3
   ·have hgd:((x0 != 2)=false)∨((x0 != 2)=true∧(x0 != 3)=false):=by
     rcases hke with rfl | rfl
     ·left;rfl
     ·right;exact ⟨rfl,rfl⟩
    have HS':Hid (∀ M,insK x2 K=M→keysF [] (h.take (k+1))=M):=fun M hM=>HS.out M (by rw [if_pos (show keyedE x0 from hke)];exact hM)
    have HB':Hid (∀ t∈insK x2 K,t.length≤1125899906842624):=fun t ht=>by
     rcases (insK_mem x2 K t).1 ht with rfl | ht
     ·exact lk
     ·exact HB.out t ht
    have hlen:=insK_len x2 K;clear hke;rcases HR.out with ⟨rfl,rfl⟩ | ⟨hpos,hrow⟩
    ·have HS2:Hid (keysF [] (h.take (k+1))=[x2]):=HS'.out _ rfl
     have HB2:Hid (∀ t∈[x2],t.length≤1125899906842624):=fun t ht=>by simp at ht;subst ht;exact lk
     rcases hgd with g2 | ⟨g2,g3⟩
     ·go_wp2_with fail
      go_loopw [5] (fun i wq=>i=.int .i64 0∧Below wo.heap.size wo wq) (fun i _=>0)
      case atStart=>exact ⟨rfl,Below.refl _ _⟩
      case round =>
       obtain ⟨rfl,hbq⟩:=hrel;go_wp2_with fail
       go_quiet (fail)
       go_wp2_with fail
       go_quiet (fail)
       generalize hV:World.drewN _ _=V;have CB:Below wo.heap.size wo V:=by rw [← hV];exact below_drewN (below_drewN hbq _) _
       clear hV;have E0:=str_own_empty V;have CA:=CB.alloc CB.size (.cells #[] 9);have m2:=(HQ.out k hk1 _ (bel_trans hbw CA)).2.2.1;rw [HX.out] at m2;simp only at m2;go_wp2_with (at_builtin;refine wpList_append_own _ rfl _ _ 45 rfl V.heap.size 9 i0 (.string ByteArray.empty) 1 16 Tryz.underlying45 hi hz0 hz1 hz2 rfl (by decide) _ _ _ rfl (E0.alloc _) ⟨V.heap.size+1,0,none⟩ 1 1 ([.string ⟨x2.toArray⟩]) rfl (rfl) ?a1nak ?a2nak ?a3nak ?a4nak ?a5nak ?_)
       try
        case a1nak=>intro j u hj;match j,hj with | 0,hj=>(simp at hj;subst hj;first | (simp [Addr.add];done) | exact cell_new7 (by simp) rfl)
       try
        case a2nak=>intro u hu;simp at hu;subst hu;rfl
       try
        case a3nak=>unfold maxLen;omega
       try
        case a4nak=>omega
       try
        case a5nak=>first | (simp;done) | (simp;omega)
       intro l1 w2 own1 g1 _;have C1:Below wo.heap.size wo w2:=(CA.alloc CA.size _).grown g1 (by have:=CA.size;simp at this ⊢;omega) (fun j hj=>Nat.le_trans CB.size (E0.lt j hj).1);go_wp2_with (at_builtin;refine wpList_append_own_none rfl _ _ 45 rfl V.heap.size 9 i0 1 Tryz.underlying45 hi _ _ _ rfl (own1) rfl ?_)
       go_wp2_with fail
       refine ⟨?relnan,?meanan⟩
       case relnan=>exact ⟨k+1,[x2],by omega,by have:=hlen;simp at this ⊢<;>omega,by first | go_num | simp,HS2,HB2,bel_trans hbw C1,.inr ⟨by first | (simp;done) | (rw [List.length_append,List.length_cons];omega),own_low8 (own1) (by have:=hbw.size;have:=CB.size;omega)⟩⟩
       case meanan=>simp [RowKit.intOf];omega
     ·go_wp2_with fail
      go_loopw [5] (fun i wq=>i=.int .i64 0∧Below wo.heap.size wo wq) (fun i _=>0)
      case atStart=>exact ⟨rfl,Below.refl _ _⟩
      case round =>
       obtain ⟨rfl,hbq⟩:=hrel;go_wp2_with fail
       go_quiet (fail)
       go_wp2_with fail
       go_quiet (fail)
       generalize hV:World.drewN _ _=V;have CB:Below wo.heap.size wo V:=by rw [← hV];exact below_drewN (below_drewN hbq _) _
       clear hV;have E0:=str_own_empty V;have CA:=CB.alloc CB.size (.cells #[] 9);have m2:=(HQ.out k hk1 _ (bel_trans hbw CA)).2.2.1;rw [HX.out] at m2;simp only at m2;go_wp2_with (at_builtin;refine wpList_append_own _ rfl _ _ 45 rfl V.heap.size 9 i0 (.string ByteArray.empty) 1 16 Tryz.underlying45 hi hz0 hz1 hz2 rfl (by decide) _ _ _ rfl (E0.alloc _) ⟨V.heap.size+1,0,none⟩ 1 1 ([.string ⟨x2.toArray⟩]) rfl (rfl) ?a1nbk ?a2nbk ?a3nbk ?a4nbk ?a5nbk ?_)
       try
        case a1nbk=>intro j u hj;match j,hj with | 0,hj=>(simp at hj;subst hj;first | (simp [Addr.add];done) | exact cell_new7 (by simp) rfl)
       try
        case a2nbk=>intro u hu;simp at hu;subst hu;rfl
       try
        case a3nbk=>unfold maxLen;omega
       try
        case a4nbk=>omega
       try
        case a5nbk=>first | (simp;done) | (simp;omega)
       intro l1 w2 own1 g1 _;have C1:Below wo.heap.size wo w2:=(CA.alloc CA.size _).grown g1 (by have:=CA.size;simp at this ⊢;omega) (fun j hj=>Nat.le_trans CB.size (E0.lt j hj).1);go_wp2_with (at_builtin;refine wpList_append_own_none rfl _ _ 45 rfl V.heap.size 9 i0 1 Tryz.underlying45 hi _ _ _ rfl (own1) rfl ?_)
       go_wp2_with fail
       refine ⟨?relnbn,?meanbn⟩
       case relnbn=>exact ⟨k+1,[x2],by omega,by have:=hlen;simp at this ⊢<;>omega,by first | go_num | simp,HS2,HB2,bel_trans hbw C1,.inr ⟨by first | (simp;done) | (rw [List.length_append,List.length_cons];omega),own_low8 (own1) (by have:=hbw.size;have:=CB.size;omega)⟩⟩
       case meanbn=>simp [RowKit.intOf];omega
    ·obtain ⟨g,cp,hr3,hc1,hc2⟩:=own_slice8 hrow hpos
     subst hr3;rcases hgd with g2 | ⟨g2,g3⟩
     ·go_wp2_with fail
      go_loopw [5] (fun i wq=>∃ q:Nat,q≤K.length∧i=.int .i64 q∧Hid (∀ j (hj:j < q),(hK:j < K.length)→lessB (K[j]'hK) x2=true)∧Below wo.heap.size wo wq) (fun i _=>K.length - (RowKit.intOf i).toNat)
      case atStart=>exact ⟨0,Nat.zero_le _,rfl,(fun j hj _=>by omega),Below.refl _ _⟩
      case round =>
       obtain ⟨q,hq,rfl,HI,hbq⟩:=hrel
       by_cases hql:q < K.length
       ·have Oq:=owns_below hrow hbq
        have cy:wr.cell? ⟨g,q,none⟩=some (.string ⟨K[q].toArray⟩):=(Oq.cellAt q (by omega)).trans (strV_at K q hql);have ck:=(HQ.out k hk1 _ (bel_trans hbw hbq)).2.2.1;rw [HX.out] at ck;simp only at ck;have ly:=HB.out _ (List.getElem_mem hql);obtain ⟨y,hy⟩:∃ y,K[q]=y:=⟨_,rfl⟩;have HY:Hid (K[q]=y):=hy;rw [hy] at cy ly;have CL:Hid (∀ W,Calls Tryz.prog 120 #[.string ⟨y.toArray⟩,.string ⟨x2.toArray⟩] W fun e w'=>e=.returned (.bool (lessB y x2))∧Below W.heap.size W w'):=fun W=>rless_any y x2 (by omega) (by omega) W
        clear hy;have S0:(fun V=>Below wr.heap.size wr V∧V.cell? ⟨g,q,none⟩=some (.string ⟨y.toArray⟩)∧V.cell? ⟨bb,off+k*4+2,none⟩=some (.string ⟨x2.toArray⟩)) (wr).drew:=⟨(Below.refl _ _).drew,cy,ck⟩;have keepS:∀ V V':World,(fun V=>Below wr.heap.size wr V∧V.cell? ⟨g,q,none⟩=some (.string ⟨y.toArray⟩)∧V.cell? ⟨bb,off+k*4+2,none⟩=some (.string ⟨x2.toArray⟩)) V→Below V.heap.size V V'→(fun V=>Below wr.heap.size wr V∧V.cell? ⟨g,q,none⟩=some (.string ⟨y.toArray⟩)∧V.cell? ⟨bb,off+k*4+2,none⟩=some (.string ⟨x2.toArray⟩)) V':=fun V V' ⟨a,b,c⟩ d=>⟨bel_trans a d,cell_bel d b,cell_bel d c⟩
        by_cases hL:lessB y x2=true
        ·rw [hL] at CL
         have HI':Hid (∀ j (hj:j < q+1),(hK:j < K.length)→lessB (K[j]'hK) x2=true):=by
          intro j hj hK;rcases Nat.lt_or_ge j q with h' | h'
          ·exact HI.out j h' hK
          ·obtain rfl:j=q:=by omega
           rw [HY.out];exact hL
         go_wp2_with fail
         go_region_held3 (fun V=>Below wr.heap.size wr V∧V.cell? ⟨g,q,none⟩=some (.string ⟨y.toArray⟩)∧V.cell? ⟨bb,off+k*4+2,none⟩=some (.string ⟨x2.toArray⟩)) (first | exact S0 | exact keepS _ _ (by assumption) (by assumption)) (first | (go_at_call 120;refine (CL.out _).mono ?_;rintro e w' ⟨rfl,b8⟩))
         go_wp2_with fail
         refine ⟨?relsa1,?measa1⟩
         case relsa1=>exact ⟨q+1,by omega,by first | go_num | simp,HI',bel_trans hbq (And.left (by assumption))⟩
         case measa1=>simp [RowKit.intOf];omega
        ·have hF:lessB y x2=false:=by simpa using hL
         rw [hF] at CL;have HSP:Hid (insK x2 K=if ∃ h:q < K.length,K[q]'h=x2 then K else K.take q++x2::K.drop q):=insK_split x2 K q hq (fun j h=>HI.out j h (by omega)) (fun h=>by rw [HY.out];exact hF)
         by_cases hE:y=x2
         ·have HS2:Hid (keysF [] (h.take (k+1))=K):=HS'.out K (by rw [HSP.out,if_pos ⟨hql,by rw [HY.out];exact hE⟩])
          have eE:(y==x2)=true:=by rw [hE];exact beq_self_eq_true _
          clear hE;go_wp2_with fail
          go_region_held3 (fun V=>Below wr.heap.size wr V∧V.cell? ⟨g,q,none⟩=some (.string ⟨y.toArray⟩)∧V.cell? ⟨bb,off+k*4+2,none⟩=some (.string ⟨x2.toArray⟩)) (first | exact S0 | exact keepS _ _ (by assumption) (by assumption)) (first | (go_at_call 120;refine (CL.out _).mono ?_;rintro e w' ⟨rfl,b8⟩))
          rename_i hHeld8
          obtain ⟨s1,s2,s3⟩:=hHeld8;go_wp2_with fail
          go_quiet (fail)
          go_wp2_with fail
          refine ⟨?relsa2,?measa2⟩
          case relsa2=>exact ⟨k+1,K,by omega,by omega,by first | go_num | simp,HS2,HB,bel_trans hbw (below_drewN (bel_trans hbq s1) _),.inr ⟨hpos,owns_below hrow (below_drewN (bel_trans hbq s1) _)⟩⟩
          case measa2=>simp [RowKit.intOf];omega
         ·have HS2:Hid (keysF [] (h.take (k+1))=K.take q++x2::K.drop q):=HS'.out _ (by rw [HSP.out,if_neg (by rintro ⟨_,e⟩;rw [HY.out] at e;exact hE e)])
          have HB2:Hid (∀ t∈K.take q++x2::K.drop q,t.length≤1125899906842624):=fun t ht=>HB'.out t (by rw [HSP.out,if_neg (by rintro ⟨_,e⟩;rw [HY.out] at e;exact hE e)];exact ht)
          have eE:(y==x2)=false:=beq_eq_false_iff_ne.2 hE;go_wp2_with fail
          go_region_held3 (fun V=>Below wr.heap.size wr V∧V.cell? ⟨g,q,none⟩=some (.string ⟨y.toArray⟩)∧V.cell? ⟨bb,off+k*4+2,none⟩=some (.string ⟨x2.toArray⟩)) (first | exact S0 | exact keepS _ _ (by assumption) (by assumption)) (first | (go_at_call 120;refine (CL.out _).mono ?_;rintro e w' ⟨rfl,b8⟩))
          rename_i hHeld8
          obtain ⟨s1,s2,s3⟩:=hHeld8;go_wp2_with fail
          go_quiet (fail)
          generalize hV:World.drewN _ _=V;have CB:Below wo.heap.size wo V:=by rw [← hV];exact below_drewN (bel_trans hbq s1) _
          clear hV s2 s3 cy ck S0 keepS;have E0:=str_own_empty V;have CA:=CB.alloc CB.size (.cells #[] 9);have VA:=(Below.refl V.heap.size V).alloc (Nat.le_refl _) (.cells #[] 9);have OV:=owns_below hrow CB;have m2:=(HQ.out k hk1 _ (bel_trans hbw CA)).2.2.1;rw [HX.out] at m2;simp only at m2;have q1:(0:Int)≤(q:Int):=by omega
          have q2:q≤cp:=by omega
          have q3:(q:Int)≤(K.length:Int):=by omega
          go_wp2_with (at_builtin;refine wpList_append_own _ rfl _ _ 45 rfl V.heap.size 9 i0 (.string ByteArray.empty) 1 16 Tryz.underlying45 hi hz0 hz1 hz2 rfl (by decide) _ _ _ rfl (E0) ⟨g,0,none⟩ q cp (strV (K.take q)) rfl (by rw [strV_length,List.length_take];omega) ?a1saux ?a2saux ?a3saux ?a4saux ?a5saux ?_)
          try
           case a1saux=>exact src_take (owns_below OV VA) q
          try
           case a2saux=>intro u hu;unfold strV at hu;obtain ⟨_,_,rfl⟩:=List.mem_map.1 hu;rfl
          try
           case a3saux=>unfold maxLen;omega
          try
           case a4saux=>omega
          try
           case a5saux=>first | (simp;done) | (simp;omega)
          intro l1 w2 own1 g1 _;have D1:Below V.heap.size V w2:=VA.grown g1 (by simp) (fun j hj=>(E0.lt j hj).1);have C1:=bel_trans CB D1;have n2:=(HQ.out k hk1 _ (bel_trans hbw C1)).2.2.1;rw [HX.out] at n2;simp only at n2;go_wp2_with (at_builtin;refine wpList_append_own _ rfl _ _ 45 rfl V.heap.size 9 i0 (.string ByteArray.empty) 1 16 Tryz.underlying45 hi hz0 hz1 hz2 rfl (by decide) _ _ _ rfl (own1.alloc _) ⟨w2.heap.size,0,none⟩ 1 1 ([.string ⟨x2.toArray⟩]) rfl (rfl) ?a1sauy ?a2sauy ?a3sauy ?a4sauy ?a5sauy ?_)
          try
           case a1sauy=>intro j u hj;match j,hj with | 0,hj=>(simp at hj;subst hj;first | (simp [Addr.add];done) | exact cell_new7 (by simp) rfl)
          try
           case a2sauy=>intro u hu;simp at hu;subst hu;rfl
          try
           case a3sauy=>unfold maxLen;omega
          try
           case a4sauy=>omega
          try
           case a5sauy=>have:=D1.size;simp;omega
          intro l2 w3 own2 g2 _;have D2:Below V.heap.size V w3:=(D1.alloc D1.size _).grown g2 (by have:=D1.size;simp;omega) (fun j hj=>(own1.lt j hj).1);have C2:=bel_trans CB D2;go_wp2_with (at_builtin;refine wpList_append_own _ rfl _ _ 45 rfl V.heap.size 9 i0 (.string ByteArray.empty) 1 16 Tryz.underlying45 hi hz0 hz1 hz2 rfl (by decide) _ _ _ rfl (own2) ⟨g,q,none⟩ (K.length - q) (cp - q) (strV (K.drop q)) rfl (by rw [strV_length,List.length_drop];omega) ?a1sauz ?a2sauz ?a3sauz ?a4sauz ?a5sauz ?_)
          try
           case a1sauz=>exact src_drop (owns_below OV D2) q
          try
           case a2sauz=>intro u hu;unfold strV at hu;obtain ⟨_,_,rfl⟩:=List.mem_map.1 hu;rfl
          try
           case a3sauz=>unfold maxLen;omega
          try
           case a4sauz=>omega
          try
           case a5sauz=>exact D2.size
          intro l3 w4 own3 g3 _;have D3:Below V.heap.size V w4:=D2.grown g3 D2.size (fun j hj=>(own2.lt j hj).1);have C3:=bel_trans CB D3
          have HO:Hid (w4.ownsRow V.heap.size 9 1 l3 (K.take q++x2::K.drop q).length (strV (K.take q++x2::K.drop q))):=by
           have e1:(K.take q++x2::K.drop q).length=q+1+(K.length - q):=by rw [List.length_append,List.length_cons,List.length_take,List.length_drop];omega
           have e2:strV (K.take q++x2::K.drop q)=strV (K.take q)++[.string ⟨x2.toArray⟩]++strV (K.drop q):=by rw [strV_app];simp [strV]
           show World.ownsRow _ _ _ _ _ _ _;rw [e1,e2];have:=own3;simpa [show strV []=[] from rfl] using this
          go_wp2_with fail
          refine ⟨?relsaut,?measaut⟩
          case relsaut=>exact ⟨k+1,K.take q++x2::K.drop q,by omega,by have:=hlen;simp at this ⊢<;>omega,by first | go_num | simp,HS2,HB2,bel_trans hbw C3,.inr ⟨by first | (simp;done) | (rw [List.length_append,List.length_cons];omega),own_low8 (HO.out) (by have:=hbw.size;have:=CB.size;omega)⟩⟩
          case measaut=>simp [RowKit.intOf];omega
       ·obtain rfl:q=K.length:=by omega
        have HSP:Hid (insK x2 K=K.take K.length++x2::K.drop K.length):=by
         have:=insK_split x2 K K.length (Nat.le_refl _) (fun j h=>HI.out j h h) (fun h=>absurd h (by omega));rw [if_neg (by rintro ⟨h,_⟩;omega)] at this;exact this
        have HS2:Hid (keysF [] (h.take (k+1))=K.take K.length++x2::K.drop K.length):=HS'.out _ HSP.out;have HB2:Hid (∀ t∈K.take K.length++x2::K.drop K.length,t.length≤1125899906842624):=fun t ht=>HB'.out t (by rw [HSP.out];exact ht)
        go_wp2_with fail
        go_quiet (fail)
        go_wp2_with fail
        go_quiet (fail)
        generalize hV:World.drewN _ _=V;have CB:Below wo.heap.size wo V:=by rw [← hV];exact below_drewN (below_drewN hbq _) _
        clear hV
        by_cases hcp:cp=K.length
        ·subst hcp
         have E0:=str_own_empty V;have CA:=CB.alloc CB.size (.cells #[] 9);have VA:=(Below.refl V.heap.size V).alloc (Nat.le_refl _) (.cells #[] 9);have OV:=owns_below hrow CB;have m2:=(HQ.out k hk1 _ (bel_trans hbw CA)).2.2.1;rw [HX.out] at m2;simp only at m2;have q1:(0:Int)≤(K.length:Int):=by omega
         have q2:K.length≤K.length:=by omega
         have q3:(K.length:Int)≤(K.length:Int):=by omega
         go_wp2_with (at_builtin;refine wpList_append_own _ rfl _ _ 45 rfl V.heap.size 9 i0 (.string ByteArray.empty) 1 16 Tryz.underlying45 hi hz0 hz1 hz2 rfl (by decide) _ _ _ rfl (E0) ⟨g,0,none⟩ K.length K.length (strV (K.take K.length)) rfl (by rw [strV_length,List.length_take];omega) ?a1savx ?a2savx ?a3savx ?a4savx ?a5savx ?_)
         try
          case a1savx=>exact src_take (owns_below OV VA) K.length
         try
          case a2savx=>intro u hu;unfold strV at hu;obtain ⟨_,_,rfl⟩:=List.mem_map.1 hu;rfl
         try
          case a3savx=>unfold maxLen;omega
         try
          case a4savx=>omega
         try
          case a5savx=>first | (simp;done) | (simp;omega)
         intro l1 w2 own1 g1 _;have D1:Below V.heap.size V w2:=VA.grown g1 (by simp) (fun j hj=>(E0.lt j hj).1);have C1:=bel_trans CB D1;have n2:=(HQ.out k hk1 _ (bel_trans hbw C1)).2.2.1;rw [HX.out] at n2;simp only at n2;go_wp2_with (at_builtin;refine wpList_append_own _ rfl _ _ 45 rfl V.heap.size 9 i0 (.string ByteArray.empty) 1 16 Tryz.underlying45 hi hz0 hz1 hz2 rfl (by decide) _ _ _ rfl (own1.alloc _) ⟨w2.heap.size,0,none⟩ 1 1 ([.string ⟨x2.toArray⟩]) rfl (rfl) ?a1savy ?a2savy ?a3savy ?a4savy ?a5savy ?_)
         try
          case a1savy=>intro j u hj;match j,hj with | 0,hj=>(simp at hj;subst hj;first | (simp [Addr.add];done) | exact cell_new7 (by simp) rfl)
         try
          case a2savy=>intro u hu;simp at hu;subst hu;rfl
         try
          case a3savy=>unfold maxLen;omega
         try
          case a4savy=>omega
         try
          case a5savy=>have:=D1.size;simp;omega
         intro l2 w3 own2 g2 _;have D2:Below V.heap.size V w3:=(D1.alloc D1.size _).grown g2 (by have:=D1.size;simp;omega) (fun j hj=>(own1.lt j hj).1);have C2:=bel_trans CB D2;go_wp2_with (at_builtin;refine wpList_append_own _ rfl _ _ 45 rfl V.heap.size 9 i0 (.string ByteArray.empty) 1 16 Tryz.underlying45 hi hz0 hz1 hz2 rfl (by decide) _ _ _ rfl (own2) _ _ _ ([]) rfl rfl ?a1savz ?a2savz ?a3savz ?a4savz ?a5savz ?_)
         try
          case a1savz=>intro j u hj;simp at hj
         try
          case a2savz=>intro u hu;simp at hu
         try
          case a3savz=>unfold maxLen;omega
         try
          case a4savz=>omega
         try
          case a5savz=>exact D2.size
         intro l3 w4 own3 g3 _;have D3:Below V.heap.size V w4:=D2.grown g3 D2.size (fun j hj=>(own2.lt j hj).1);have C3:=bel_trans CB D3
         have HO:Hid (w4.ownsRow V.heap.size 9 1 l3 (K.take K.length++x2::K.drop K.length).length (strV (K.take K.length++x2::K.drop K.length))):=by
          have e1:(K.take K.length++x2::K.drop K.length).length=K.length+1+(K.length - K.length):=by rw [List.length_append,List.length_cons,List.length_take,List.length_drop];omega
          have e2:strV (K.take K.length++x2::K.drop K.length)=strV (K.take K.length)++[.string ⟨x2.toArray⟩]++strV (K.drop K.length):=by rw [strV_app];simp [strV]
          show World.ownsRow _ _ _ _ _ _ _;rw [e1,e2];have:=own3;simpa [show strV []=[] from rfl] using this
         go_wp2_with fail
         refine ⟨?relsavt,?measavt⟩
         case relsavt=>exact ⟨k+1,K.take K.length++x2::K.drop K.length,by omega,by have:=hlen;simp at this ⊢<;>omega,by first | go_num | simp,HS2,HB2,bel_trans hbw C3,.inr ⟨by first | (simp;done) | (rw [List.length_append,List.length_cons];omega),own_low8 (HO.out) (by have:=hbw.size;have:=CB.size;omega)⟩⟩
         case measavt=>simp [RowKit.intOf];omega
        ·have hcl:K.length < cp:=by omega
         have E0:=str_own_empty V;have CA:=CB.alloc CB.size (.cells #[] 9);have VA:=(Below.refl V.heap.size V).alloc (Nat.le_refl _) (.cells #[] 9);have OV:=owns_below hrow CB;have m2:=(HQ.out k hk1 _ (bel_trans hbw CA)).2.2.1;rw [HX.out] at m2;simp only at m2;have q1:(0:Int)≤(K.length:Int):=by omega
         have q2:K.length≤cp:=by omega
         have q3:(K.length:Int)≤(K.length:Int):=by omega
         go_wp2_with (at_builtin;refine wpList_append_own _ rfl _ _ 45 rfl V.heap.size 9 i0 (.string ByteArray.empty) 1 16 Tryz.underlying45 hi hz0 hz1 hz2 rfl (by decide) _ _ _ rfl (E0) ⟨g,0,none⟩ K.length cp (strV (K.take K.length)) rfl (by rw [strV_length,List.length_take];omega) ?a1sawx ?a2sawx ?a3sawx ?a4sawx ?a5sawx ?_)
         try
          case a1sawx=>exact src_take (owns_below OV VA) K.length
         try
          case a2sawx=>intro u hu;unfold strV at hu;obtain ⟨_,_,rfl⟩:=List.mem_map.1 hu;rfl
         try
          case a3sawx=>unfold maxLen;omega
         try
          case a4sawx=>omega
         try
          case a5sawx=>first | (simp;done) | (simp;omega)
         intro l1 w2 own1 g1 _;have D1:Below V.heap.size V w2:=VA.grown g1 (by simp) (fun j hj=>(E0.lt j hj).1);have C1:=bel_trans CB D1;have n2:=(HQ.out k hk1 _ (bel_trans hbw C1)).2.2.1;rw [HX.out] at n2;simp only at n2;go_wp2_with (at_builtin;refine wpList_append_own _ rfl _ _ 45 rfl V.heap.size 9 i0 (.string ByteArray.empty) 1 16 Tryz.underlying45 hi hz0 hz1 hz2 rfl (by decide) _ _ _ rfl (own1.alloc _) ⟨w2.heap.size,0,none⟩ 1 1 ([.string ⟨x2.toArray⟩]) rfl (rfl) ?a1sawy ?a2sawy ?a3sawy ?a4sawy ?a5sawy ?_)
         try
          case a1sawy=>intro j u hj;match j,hj with | 0,hj=>(simp at hj;subst hj;first | (simp [Addr.add];done) | exact cell_new7 (by simp) rfl)
         try
          case a2sawy=>intro u hu;simp at hu;subst hu;rfl
         try
          case a3sawy=>unfold maxLen;omega
         try
          case a4sawy=>omega
         try
          case a5sawy=>have:=D1.size;simp;omega
         intro l2 w3 own2 g2 _;have D2:Below V.heap.size V w3:=(D1.alloc D1.size _).grown g2 (by have:=D1.size;simp;omega) (fun j hj=>(own1.lt j hj).1);have C2:=bel_trans CB D2;go_wp2_with (at_builtin;refine wpList_append_own _ rfl _ _ 45 rfl V.heap.size 9 i0 (.string ByteArray.empty) 1 16 Tryz.underlying45 hi hz0 hz1 hz2 rfl (by decide) _ _ _ rfl (own2) _ _ _ ([]) rfl rfl ?a1sawz ?a2sawz ?a3sawz ?a4sawz ?a5sawz ?_)
         try
          case a1sawz=>intro j u hj;simp at hj
         try
          case a2sawz=>intro u hu;simp at hu
         try
          case a3sawz=>unfold maxLen;omega
         try
          case a4sawz=>omega
         try
          case a5sawz=>exact D2.size
         intro l3 w4 own3 g3 _;have D3:Below V.heap.size V w4:=D2.grown g3 D2.size (fun j hj=>(own2.lt j hj).1);have C3:=bel_trans CB D3
         have HO:Hid (w4.ownsRow V.heap.size 9 1 l3 (K.take K.length++x2::K.drop K.length).length (strV (K.take K.length++x2::K.drop K.length))):=by
          have e1:(K.take K.length++x2::K.drop K.length).length=K.length+1+(K.length - K.length):=by rw [List.length_append,List.length_cons,List.length_take,List.length_drop];omega
          have e2:strV (K.take K.length++x2::K.drop K.length)=strV (K.take K.length)++[.string ⟨x2.toArray⟩]++strV (K.drop K.length):=by rw [strV_app];simp [strV]
          show World.ownsRow _ _ _ _ _ _ _;rw [e1,e2];have:=own3;simpa [show strV []=[] from rfl] using this
         go_wp2_with fail
         refine ⟨?relsawt,?measawt⟩
         case relsawt=>exact ⟨k+1,K.take K.length++x2::K.drop K.length,by omega,by have:=hlen;simp at this ⊢<;>omega,by first | go_num | simp,HS2,HB2,bel_trans hbw C3,.inr ⟨by first | (simp;done) | (rw [List.length_append,List.length_cons];omega),own_low8 (HO.out) (by have:=hbw.size;have:=CB.size;omega)⟩⟩
         case measawt=>simp [RowKit.intOf];omega
     ·go_wp2_with fail
      go_loopw [5] (fun i wq=>∃ q:Nat,q≤K.length∧i=.int .i64 q∧Hid (∀ j (hj:j < q),(hK:j < K.length)→lessB (K[j]'hK) x2=true)∧Below wo.heap.size wo wq) (fun i _=>K.length - (RowKit.intOf i).toNat)
      case atStart=>exact ⟨0,Nat.zero_le _,rfl,(fun j hj _=>by omega),Below.refl _ _⟩
      case round =>
       obtain ⟨q,hq,rfl,HI,hbq⟩:=hrel
       by_cases hql:q < K.length
       ·have Oq:=owns_below hrow hbq
        have cy:wr.cell? ⟨g,q,none⟩=some (.string ⟨K[q].toArray⟩):=(Oq.cellAt q (by omega)).trans (strV_at K q hql);have ck:=(HQ.out k hk1 _ (bel_trans hbw hbq)).2.2.1;rw [HX.out] at ck;simp only at ck;have ly:=HB.out _ (List.getElem_mem hql);obtain ⟨y,hy⟩:∃ y,K[q]=y:=⟨_,rfl⟩;have HY:Hid (K[q]=y):=hy;rw [hy] at cy ly;have CL:Hid (∀ W,Calls Tryz.prog 120 #[.string ⟨y.toArray⟩,.string ⟨x2.toArray⟩] W fun e w'=>e=.returned (.bool (lessB y x2))∧Below W.heap.size W w'):=fun W=>rless_any y x2 (by omega) (by omega) W
        clear hy;have S0:(fun V=>Below wr.heap.size wr V∧V.cell? ⟨g,q,none⟩=some (.string ⟨y.toArray⟩)∧V.cell? ⟨bb,off+k*4+2,none⟩=some (.string ⟨x2.toArray⟩)) (wr).drew:=⟨(Below.refl _ _).drew,cy,ck⟩;have keepS:∀ V V':World,(fun V=>Below wr.heap.size wr V∧V.cell? ⟨g,q,none⟩=some (.string ⟨y.toArray⟩)∧V.cell? ⟨bb,off+k*4+2,none⟩=some (.string ⟨x2.toArray⟩)) V→Below V.heap.size V V'→(fun V=>Below wr.heap.size wr V∧V.cell? ⟨g,q,none⟩=some (.string ⟨y.toArray⟩)∧V.cell? ⟨bb,off+k*4+2,none⟩=some (.string ⟨x2.toArray⟩)) V':=fun V V' ⟨a,b,c⟩ d=>⟨bel_trans a d,cell_bel d b,cell_bel d c⟩
        by_cases hL:lessB y x2=true
        ·rw [hL] at CL
         have HI':Hid (∀ j (hj:j < q+1),(hK:j < K.length)→lessB (K[j]'hK) x2=true):=by
          intro j hj hK;rcases Nat.lt_or_ge j q with h' | h'
          ·exact HI.out j h' hK
          ·obtain rfl:j=q:=by omega
           rw [HY.out];exact hL
         go_wp2_with fail
         go_region_held3 (fun V=>Below wr.heap.size wr V∧V.cell? ⟨g,q,none⟩=some (.string ⟨y.toArray⟩)∧V.cell? ⟨bb,off+k*4+2,none⟩=some (.string ⟨x2.toArray⟩)) (first | exact S0 | exact keepS _ _ (by assumption) (by assumption)) (first | (go_at_call 120;refine (CL.out _).mono ?_;rintro e w' ⟨rfl,b8⟩))
         go_wp2_with fail
         refine ⟨?relsb1,?measb1⟩
         case relsb1=>exact ⟨q+1,by omega,by first | go_num | simp,HI',bel_trans hbq (And.left (by assumption))⟩
         case measb1=>simp [RowKit.intOf];omega
        ·have hF:lessB y x2=false:=by simpa using hL
         rw [hF] at CL;have HSP:Hid (insK x2 K=if ∃ h:q < K.length,K[q]'h=x2 then K else K.take q++x2::K.drop q):=insK_split x2 K q hq (fun j h=>HI.out j h (by omega)) (fun h=>by rw [HY.out];exact hF)
         by_cases hE:y=x2
         ·have HS2:Hid (keysF [] (h.take (k+1))=K):=HS'.out K (by rw [HSP.out,if_pos ⟨hql,by rw [HY.out];exact hE⟩])
          have eE:(y==x2)=true:=by rw [hE];exact beq_self_eq_true _
          clear hE;go_wp2_with fail
          go_region_held3 (fun V=>Below wr.heap.size wr V∧V.cell? ⟨g,q,none⟩=some (.string ⟨y.toArray⟩)∧V.cell? ⟨bb,off+k*4+2,none⟩=some (.string ⟨x2.toArray⟩)) (first | exact S0 | exact keepS _ _ (by assumption) (by assumption)) (first | (go_at_call 120;refine (CL.out _).mono ?_;rintro e w' ⟨rfl,b8⟩))
          rename_i hHeld8
          obtain ⟨s1,s2,s3⟩:=hHeld8;go_wp2_with fail
          go_quiet (fail)
          go_wp2_with fail
          refine ⟨?relsb2,?measb2⟩
          case relsb2=>exact ⟨k+1,K,by omega,by omega,by first | go_num | simp,HS2,HB,bel_trans hbw (below_drewN (bel_trans hbq s1) _),.inr ⟨hpos,owns_below hrow (below_drewN (bel_trans hbq s1) _)⟩⟩
          case measb2=>simp [RowKit.intOf];omega
         ·have HS2:Hid (keysF [] (h.take (k+1))=K.take q++x2::K.drop q):=HS'.out _ (by rw [HSP.out,if_neg (by rintro ⟨_,e⟩;rw [HY.out] at e;exact hE e)])
          have HB2:Hid (∀ t∈K.take q++x2::K.drop q,t.length≤1125899906842624):=fun t ht=>HB'.out t (by rw [HSP.out,if_neg (by rintro ⟨_,e⟩;rw [HY.out] at e;exact hE e)];exact ht)
          have eE:(y==x2)=false:=beq_eq_false_iff_ne.2 hE;go_wp2_with fail
          go_region_held3 (fun V=>Below wr.heap.size wr V∧V.cell? ⟨g,q,none⟩=some (.string ⟨y.toArray⟩)∧V.cell? ⟨bb,off+k*4+2,none⟩=some (.string ⟨x2.toArray⟩)) (first | exact S0 | exact keepS _ _ (by assumption) (by assumption)) (first | (go_at_call 120;refine (CL.out _).mono ?_;rintro e w' ⟨rfl,b8⟩))
          rename_i hHeld8
          obtain ⟨s1,s2,s3⟩:=hHeld8;go_wp2_with fail
          go_quiet (fail)
          generalize hV:World.drewN _ _=V;have CB:Below wo.heap.size wo V:=by rw [← hV];exact below_drewN (bel_trans hbq s1) _
          clear hV s2 s3 cy ck S0 keepS;have E0:=str_own_empty V;have CA:=CB.alloc CB.size (.cells #[] 9);have VA:=(Below.refl V.heap.size V).alloc (Nat.le_refl _) (.cells #[] 9);have OV:=owns_below hrow CB;have m2:=(HQ.out k hk1 _ (bel_trans hbw CA)).2.2.1;rw [HX.out] at m2;simp only at m2;have q1:(0:Int)≤(q:Int):=by omega
          have q2:q≤cp:=by omega
          have q3:(q:Int)≤(K.length:Int):=by omega
          go_wp2_with (at_builtin;refine wpList_append_own _ rfl _ _ 45 rfl V.heap.size 9 i0 (.string ByteArray.empty) 1 16 Tryz.underlying45 hi hz0 hz1 hz2 rfl (by decide) _ _ _ rfl (E0) ⟨g,0,none⟩ q cp (strV (K.take q)) rfl (by rw [strV_length,List.length_take];omega) ?a1sbux ?a2sbux ?a3sbux ?a4sbux ?a5sbux ?_)
          try
           case a1sbux=>exact src_take (owns_below OV VA) q
          try
           case a2sbux=>intro u hu;unfold strV at hu;obtain ⟨_,_,rfl⟩:=List.mem_map.1 hu;rfl
          try
           case a3sbux=>unfold maxLen;omega
          try
           case a4sbux=>omega
          try
           case a5sbux=>first | (simp;done) | (simp;omega)
          intro l1 w2 own1 g1 _;have D1:Below V.heap.size V w2:=VA.grown g1 (by simp) (fun j hj=>(E0.lt j hj).1);have C1:=bel_trans CB D1;have n2:=(HQ.out k hk1 _ (bel_trans hbw C1)).2.2.1;rw [HX.out] at n2;simp only at n2;go_wp2_with (at_builtin;refine wpList_append_own _ rfl _ _ 45 rfl V.heap.size 9 i0 (.string ByteArray.empty) 1 16 Tryz.underlying45 hi hz0 hz1 hz2 rfl (by decide) _ _ _ rfl (own1.alloc _) ⟨w2.heap.size,0,none⟩ 1 1 ([.string ⟨x2.toArray⟩]) rfl (rfl) ?a1sbuy ?a2sbuy ?a3sbuy ?a4sbuy ?a5sbuy ?_)
          try
           case a1sbuy=>intro j u hj;match j,hj with | 0,hj=>(simp at hj;subst hj;first | (simp [Addr.add];done) | exact cell_new7 (by simp) rfl)
          try
           case a2sbuy=>intro u hu;simp at hu;subst hu;rfl
          try
           case a3sbuy=>unfold maxLen;omega
          try
           case a4sbuy=>omega
          try
           case a5sbuy=>have:=D1.size;simp;omega
          intro l2 w3 own2 g2 _;have D2:Below V.heap.size V w3:=(D1.alloc D1.size _).grown g2 (by have:=D1.size;simp;omega) (fun j hj=>(own1.lt j hj).1);have C2:=bel_trans CB D2;go_wp2_with (at_builtin;refine wpList_append_own _ rfl _ _ 45 rfl V.heap.size 9 i0 (.string ByteArray.empty) 1 16 Tryz.underlying45 hi hz0 hz1 hz2 rfl (by decide) _ _ _ rfl (own2) ⟨g,q,none⟩ (K.length - q) (cp - q) (strV (K.drop q)) rfl (by rw [strV_length,List.length_drop];omega) ?a1sbuz ?a2sbuz ?a3sbuz ?a4sbuz ?a5sbuz ?_)
          try
           case a1sbuz=>exact src_drop (owns_below OV D2) q
          try
           case a2sbuz=>intro u hu;unfold strV at hu;obtain ⟨_,_,rfl⟩:=List.mem_map.1 hu;rfl
          try
           case a3sbuz=>unfold maxLen;omega
          try
           case a4sbuz=>omega
          try
           case a5sbuz=>exact D2.size
          intro l3 w4 own3 g3 _;have D3:Below V.heap.size V w4:=D2.grown g3 D2.size (fun j hj=>(own2.lt j hj).1);have C3:=bel_trans CB D3
          have HO:Hid (w4.ownsRow V.heap.size 9 1 l3 (K.take q++x2::K.drop q).length (strV (K.take q++x2::K.drop q))):=by
           have e1:(K.take q++x2::K.drop q).length=q+1+(K.length - q):=by rw [List.length_append,List.length_cons,List.length_take,List.length_drop];omega
           have e2:strV (K.take q++x2::K.drop q)=strV (K.take q)++[.string ⟨x2.toArray⟩]++strV (K.drop q):=by rw [strV_app];simp [strV]
           show World.ownsRow _ _ _ _ _ _ _;rw [e1,e2];have:=own3;simpa [show strV []=[] from rfl] using this
          go_wp2_with fail
          refine ⟨?relsbut,?measbut⟩
          case relsbut=>exact ⟨k+1,K.take q++x2::K.drop q,by omega,by have:=hlen;simp at this ⊢<;>omega,by first | go_num | simp,HS2,HB2,bel_trans hbw C3,.inr ⟨by first | (simp;done) | (rw [List.length_append,List.length_cons];omega),own_low8 (HO.out) (by have:=hbw.size;have:=CB.size;omega)⟩⟩
          case measbut=>simp [RowKit.intOf];omega
       ·obtain rfl:q=K.length:=by omega
        have HSP:Hid (insK x2 K=K.take K.length++x2::K.drop K.length):=by
         have:=insK_split x2 K K.length (Nat.le_refl _) (fun j h=>HI.out j h h) (fun h=>absurd h (by omega));rw [if_neg (by rintro ⟨h,_⟩;omega)] at this;exact this
        have HS2:Hid (keysF [] (h.take (k+1))=K.take K.length++x2::K.drop K.length):=HS'.out _ HSP.out;have HB2:Hid (∀ t∈K.take K.length++x2::K.drop K.length,t.length≤1125899906842624):=fun t ht=>HB'.out t (by rw [HSP.out];exact ht)
        go_wp2_with fail
        go_quiet (fail)
        go_wp2_with fail
        go_quiet (fail)
        generalize hV:World.drewN _ _=V;have CB:Below wo.heap.size wo V:=by rw [← hV];exact below_drewN (below_drewN hbq _) _
        clear hV
        by_cases hcp:cp=K.length
        ·subst hcp
         have E0:=str_own_empty V;have CA:=CB.alloc CB.size (.cells #[] 9);have VA:=(Below.refl V.heap.size V).alloc (Nat.le_refl _) (.cells #[] 9);have OV:=owns_below hrow CB;have m2:=(HQ.out k hk1 _ (bel_trans hbw CA)).2.2.1;rw [HX.out] at m2;simp only at m2;have q1:(0:Int)≤(K.length:Int):=by omega
         have q2:K.length≤K.length:=by omega
         have q3:(K.length:Int)≤(K.length:Int):=by omega
         go_wp2_with (at_builtin;refine wpList_append_own _ rfl _ _ 45 rfl V.heap.size 9 i0 (.string ByteArray.empty) 1 16 Tryz.underlying45 hi hz0 hz1 hz2 rfl (by decide) _ _ _ rfl (E0) ⟨g,0,none⟩ K.length K.length (strV (K.take K.length)) rfl (by rw [strV_length,List.length_take];omega) ?a1sbvx ?a2sbvx ?a3sbvx ?a4sbvx ?a5sbvx ?_)
         try
          case a1sbvx=>exact src_take (owns_below OV VA) K.length
         try
          case a2sbvx=>intro u hu;unfold strV at hu;obtain ⟨_,_,rfl⟩:=List.mem_map.1 hu;rfl
         try
          case a3sbvx=>unfold maxLen;omega
         try
          case a4sbvx=>omega
         try
          case a5sbvx=>first | (simp;done) | (simp;omega)
         intro l1 w2 own1 g1 _;have D1:Below V.heap.size V w2:=VA.grown g1 (by simp) (fun j hj=>(E0.lt j hj).1);have C1:=bel_trans CB D1;have n2:=(HQ.out k hk1 _ (bel_trans hbw C1)).2.2.1;rw [HX.out] at n2;simp only at n2;go_wp2_with (at_builtin;refine wpList_append_own _ rfl _ _ 45 rfl V.heap.size 9 i0 (.string ByteArray.empty) 1 16 Tryz.underlying45 hi hz0 hz1 hz2 rfl (by decide) _ _ _ rfl (own1.alloc _) ⟨w2.heap.size,0,none⟩ 1 1 ([.string ⟨x2.toArray⟩]) rfl (rfl) ?a1sbvy ?a2sbvy ?a3sbvy ?a4sbvy ?a5sbvy ?_)
         try
          case a1sbvy=>intro j u hj;match j,hj with | 0,hj=>(simp at hj;subst hj;first | (simp [Addr.add];done) | exact cell_new7 (by simp) rfl)
         try
          case a2sbvy=>intro u hu;simp at hu;subst hu;rfl
         try
          case a3sbvy=>unfold maxLen;omega
         try
          case a4sbvy=>omega
         try
          case a5sbvy=>have:=D1.size;simp;omega
         intro l2 w3 own2 g2 _;have D2:Below V.heap.size V w3:=(D1.alloc D1.size _).grown g2 (by have:=D1.size;simp;omega) (fun j hj=>(own1.lt j hj).1);have C2:=bel_trans CB D2;go_wp2_with (at_builtin;refine wpList_append_own _ rfl _ _ 45 rfl V.heap.size 9 i0 (.string ByteArray.empty) 1 16 Tryz.underlying45 hi hz0 hz1 hz2 rfl (by decide) _ _ _ rfl (own2) _ _ _ ([]) rfl rfl ?a1sbvz ?a2sbvz ?a3sbvz ?a4sbvz ?a5sbvz ?_)
         try
          case a1sbvz=>intro j u hj;simp at hj
         try
          case a2sbvz=>intro u hu;simp at hu
         try
          case a3sbvz=>unfold maxLen;omega
         try
          case a4sbvz=>omega
         try
          case a5sbvz=>exact D2.size
         intro l3 w4 own3 g3 _;have D3:Below V.heap.size V w4:=D2.grown g3 D2.size (fun j hj=>(own2.lt j hj).1);have C3:=bel_trans CB D3
         have HO:Hid (w4.ownsRow V.heap.size 9 1 l3 (K.take K.length++x2::K.drop K.length).length (strV (K.take K.length++x2::K.drop K.length))):=by
          have e1:(K.take K.length++x2::K.drop K.length).length=K.length+1+(K.length - K.length):=by rw [List.length_append,List.length_cons,List.length_take,List.length_drop];omega
          have e2:strV (K.take K.length++x2::K.drop K.length)=strV (K.take K.length)++[.string ⟨x2.toArray⟩]++strV (K.drop K.length):=by rw [strV_app];simp [strV]
          show World.ownsRow _ _ _ _ _ _ _;rw [e1,e2];have:=own3;simpa [show strV []=[] from rfl] using this
         go_wp2_with fail
         refine ⟨?relsbvt,?measbvt⟩
         case relsbvt=>exact ⟨k+1,K.take K.length++x2::K.drop K.length,by omega,by have:=hlen;simp at this ⊢<;>omega,by first | go_num | simp,HS2,HB2,bel_trans hbw C3,.inr ⟨by first | (simp;done) | (rw [List.length_append,List.length_cons];omega),own_low8 (HO.out) (by have:=hbw.size;have:=CB.size;omega)⟩⟩
         case measbvt=>simp [RowKit.intOf];omega
        ·have hcl:K.length < cp:=by omega
         have E0:=str_own_empty V;have CA:=CB.alloc CB.size (.cells #[] 9);have VA:=(Below.refl V.heap.size V).alloc (Nat.le_refl _) (.cells #[] 9);have OV:=owns_below hrow CB;have m2:=(HQ.out k hk1 _ (bel_trans hbw CA)).2.2.1;rw [HX.out] at m2;simp only at m2;have q1:(0:Int)≤(K.length:Int):=by omega
         have q2:K.length≤cp:=by omega
         have q3:(K.length:Int)≤(K.length:Int):=by omega
         go_wp2_with (at_builtin;refine wpList_append_own _ rfl _ _ 45 rfl V.heap.size 9 i0 (.string ByteArray.empty) 1 16 Tryz.underlying45 hi hz0 hz1 hz2 rfl (by decide) _ _ _ rfl (E0) ⟨g,0,none⟩ K.length cp (strV (K.take K.length)) rfl (by rw [strV_length,List.length_take];omega) ?a1sbwx ?a2sbwx ?a3sbwx ?a4sbwx ?a5sbwx ?_)
         try
          case a1sbwx=>exact src_take (owns_below OV VA) K.length
         try
          case a2sbwx=>intro u hu;unfold strV at hu;obtain ⟨_,_,rfl⟩:=List.mem_map.1 hu;rfl
         try
          case a3sbwx=>unfold maxLen;omega
         try
          case a4sbwx=>omega
         try
          case a5sbwx=>first | (simp;done) | (simp;omega)
         intro l1 w2 own1 g1 _;have D1:Below V.heap.size V w2:=VA.grown g1 (by simp) (fun j hj=>(E0.lt j hj).1);have C1:=bel_trans CB D1;have n2:=(HQ.out k hk1 _ (bel_trans hbw C1)).2.2.1;rw [HX.out] at n2;simp only at n2;go_wp2_with (at_builtin;refine wpList_append_own _ rfl _ _ 45 rfl V.heap.size 9 i0 (.string ByteArray.empty) 1 16 Tryz.underlying45 hi hz0 hz1 hz2 rfl (by decide) _ _ _ rfl (own1.alloc _) ⟨w2.heap.size,0,none⟩ 1 1 ([.string ⟨x2.toArray⟩]) rfl (rfl) ?a1sbwy ?a2sbwy ?a3sbwy ?a4sbwy ?a5sbwy ?_)
         try
          case a1sbwy=>intro j u hj;match j,hj with | 0,hj=>(simp at hj;subst hj;first | (simp [Addr.add];done) | exact cell_new7 (by simp) rfl)
         try
          case a2sbwy=>intro u hu;simp at hu;subst hu;rfl
         try
          case a3sbwy=>unfold maxLen;omega
         try
          case a4sbwy=>omega
         try
          case a5sbwy=>have:=D1.size;simp;omega
         intro l2 w3 own2 g2 _;have D2:Below V.heap.size V w3:=(D1.alloc D1.size _).grown g2 (by have:=D1.size;simp;omega) (fun j hj=>(own1.lt j hj).1);have C2:=bel_trans CB D2;go_wp2_with (at_builtin;refine wpList_append_own _ rfl _ _ 45 rfl V.heap.size 9 i0 (.string ByteArray.empty) 1 16 Tryz.underlying45 hi hz0 hz1 hz2 rfl (by decide) _ _ _ rfl (own2) _ _ _ ([]) rfl rfl ?a1sbwz ?a2sbwz ?a3sbwz ?a4sbwz ?a5sbwz ?_)
         try
          case a1sbwz=>intro j u hj;simp at hj
         try
          case a2sbwz=>intro u hu;simp at hu
         try
          case a3sbwz=>unfold maxLen;omega
         try
          case a4sbwz=>omega
         try
          case a5sbwz=>exact D2.size
         intro l3 w4 own3 g3 _;have D3:Below V.heap.size V w4:=D2.grown g3 D2.size (fun j hj=>(own2.lt j hj).1);have C3:=bel_trans CB D3
         have HO:Hid (w4.ownsRow V.heap.size 9 1 l3 (K.take K.length++x2::K.drop K.length).length (strV (K.take K.length++x2::K.drop K.length))):=by
          have e1:(K.take K.length++x2::K.drop K.length).length=K.length+1+(K.length - K.length):=by rw [List.length_append,List.length_cons,List.length_take,List.length_drop];omega
          have e2:strV (K.take K.length++x2::K.drop K.length)=strV (K.take K.length)++[.string ⟨x2.toArray⟩]++strV (K.drop K.length):=by rw [strV_app];simp [strV]
          show World.ownsRow _ _ _ _ _ _ _;rw [e1,e2];have:=own3;simpa [show strV []=[] from rfl] using this
         go_wp2_with fail
         refine ⟨?relsbwt,?measbwt⟩
         case relsbwt=>exact ⟨k+1,K.take K.length++x2::K.drop K.length,by omega,by have:=hlen;simp at this ⊢<;>omega,by first | go_num | simp,HS2,HB2,bel_trans hbw C3,.inr ⟨by first | (simp;done) | (rw [List.length_append,List.length_cons];omega),own_low8 (HO.out) (by have:=hbw.size;have:=CB.size;omega)⟩⟩
         case measbwt=>simp [RowKit.intOf];omega
   ·have g2:(x0 != 2)=true:=bne_iff_ne.2 (fun hh=>hke (Or.inl hh))
    have g3:(x0 != 3)=true:=bne_iff_ne.2 (fun hh=>hke (Or.inr hh));have HS2:Hid (keysF [] (h.take (k+1))=K):=HS.out K (by rw [if_neg (show ¬ keyedE x0 from hke)]);go_wp2_with fail
    refine ⟨?relZ,?meaZ⟩
    case relZ=>exact ⟨k+1,K,by omega,by omega,by first | go_num | simp,HS2,HB,hbw,HR⟩
    case meaZ=>simp [RowKit.intOf];omega
  ·obtain rfl:k=n:=by omega
   have HE:Hid (keysL h=K):=by
    have:=HK.out;rw [List.take_of_length_le (by have:=HN.out;omega)] at this;exact this
   go_wp2_with fail
   go_ret
   refine ⟨_,rfl,hbw,?_⟩;rw [HE.out];rcases HR.out with ⟨hr,hK⟩ | ⟨_,hrow⟩
   ·rw [hr,hK];exact World.ownsRow_nil _ _ _ _
   ·exact hrow
end Go.Proofs.YthamoeekiglphaaGreatDoor
