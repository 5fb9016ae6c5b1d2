/-
  An order has each node once; with steps left out it is forward still: in lists. What cartoucheref10.committed answers. What cartoucheref10.Nodes answers.
-/
import Derived.Test.YtiihegldhnlleaaGreatCL0c
namespace Go.Proofs.YtiihegldhnlleaaGreat
set_option maxRecDepth 100000
set_option linter.unusedVariables false
def cnT (o:List Int) (x:Int) (m:Nat):Nat:=(o.take m).count x
theorem cnT_yes (o:List Int) (x:Int) (m:Nat) (hm:m < o.length) (h:o[m]=x):cnT o x (m+1)=cnT o x m+1:=by
 unfold cnT
 rw [List.take_succ_eq_append_getElem hm,List.count_append,h]
 simp
theorem cnT_no (o:List Int) (x:Int) (m:Nat) (hm:m < o.length) (h:o[m]≠x):cnT o x (m+1)=cnT o x m:=by
 unfold cnT
 rw [List.take_succ_eq_append_getElem hm,List.count_append,List.count_singleton]
 simp [h]
open Go.RowKit
attribute [local go_sem] ba_size
set_option maxHeartbeats 1000000 in
theorem rcomm_any (h:List Ev) (v:Value) (w:World) (hT:IsEvs w v h) (t:Int) :
 Calls Tryz.prog 39 #[v,.int .i64 t] w fun e w'=>e=.returned (.int .i64 (oI (commL h t)))∧Below w.heap.size w w':=by
 have D:=rend_any h v w hT t h.length (Nat.le_refl _)
 obtain ⟨a,cap,rfl,h1,h2,h3,HC⟩:=hT.reads
 obtain ⟨n,hn⟩:∃ n,h.length=n:=⟨_,rfl⟩
 have HN:Hid (h.length=n):=hn
 rcases he:endL h t h.length with _ | e
 ·rw [comm_none h t he]
  rw [he] at D
  simp only [oI] at D ⊢
  rw [hn] at D h1 h3 ⊢
  clear hT hn he
  go_enter Tryz.func39,Tryz.ntmps39
  go_wp2_with fail
  refine D.mono ?_
  rintro e w1 ⟨rfl,b1⟩
  go_wp2_with fail
  go_ret
  exact ⟨rfl,b1⟩
 ·have hel:e < h.length:=((fi_some _ _ _).1 he).1
  have HE:Hid (e < h.length):=hel
  obtain ⟨bb,off,rfl,HQ⟩:=HC.out (by omega)
  have j1:¬ (e:Int) < 0:=by omega
  rw [he] at D
  simp only [oI] at D
  by_cases h4:(ev h e).1=4
  ·rw [comm_yes h t e he h4]
   have HX:Hid ((ev h e).1=4):=h4
   simp only [oI]
   rw [hn] at D h1 h3 hel ⊢
   clear hT hn he h4 HC
   go_enter Tryz.func39,Tryz.ntmps39
   go_wp2_with fail
   refine D.mono ?_
   rintro e' w1 ⟨rfl,b1⟩
   obtain ⟨c0,_,_,_⟩:=HQ.out e HE.out _ b1
   rw [HX.out] at c0
   go_wp2_with fail
   go_ret
   exact ⟨rfl,b1⟩
  ·rw [comm_no h t e he h4]
   obtain ⟨x0,hx⟩:∃ x0,(ev h e).1=x0:=⟨_,rfl⟩
   have HX:Hid ((ev h e).1=x0):=hx
   have e4:(x0 != 4)=true:=by rw [← hx];simpa using h4
   simp only [oI]
   rw [hn] at D h1 h3 hel ⊢
   clear hT hn he h4 HC hx
   go_enter Tryz.func39,Tryz.ntmps39
   go_wp2_with fail
   refine D.mono ?_
   rintro e' w1 ⟨rfl,b1⟩
   obtain ⟨c0,_,_,_⟩:=HQ.out e HE.out _ b1
   rw [HX.out] at c0
   go_wp2_with fail
   go_ret
   exact ⟨rfl,b1⟩
theorem recN_snoc (L:List Int) (x:Int):recV intV (L++[x])=recV intV L++[.int .i64 x]:=by rw [recV_append];rfl
set_option maxHeartbeats 4000000 in
theorem rnodes_any (h:List Ev) (v:Value) (w:World) (hT:IsEvs w v h) :
 Calls Tryz.prog 21 #[v] w fun e w'=>InRow w (nodeL h) e w':=by
 obtain ⟨i0,hi,hz0,hz1,hz2⟩:=info_parts int_info
 have C1:=fun (t:Int) W hW=>rcomm_any h v W (hT.below (w':=W) hW) t
 obtain ⟨a,cap,rfl,h1,h2,h3,HC⟩:=hT.reads
 obtain ⟨n,hn⟩:∃ n,h.length=n:=⟨_,rfl⟩
 have HN:Hid (h.length=n):=hn
 simp only [hn] at C1
 rw [hn] at h1 h3 ⊢
 clear hT hn
 go_enter Tryz.func21,Tryz.ntmps21
 go_wp2_with fail
 go_loopw [3,4] (fun r i wr=>∃ (k c:Nat),k≤301∧c≤k∧i=.int .i64 ((k:Int) - 1)∧Hid ((ndL h k).length=c)∧Below w.heap.size w wr∧wr.ownsRow w.heap.size 3 1 r c (recV intV (ndL h k))) (fun _ i _=>(301 - (intOf i+1)).toNat)
 case atStart=>exact ⟨0,0,by omega,by omega,rfl,rfl,Below.refl _ _,World.ownsRow_nil _ _ _ _⟩
 case round =>
  obtain ⟨k,c,hk,hc,rfl,HL,hbw,hrow⟩:=hrel
  obtain ⟨wo,rfl⟩:∃ x,x=wr:=⟨_,rfl⟩
  by_cases hlt:k < 301
  ·have j0:(k:Int) - 1 < 300:=by omega
   obtain ⟨t,ht⟩:∃ t,(k:Int) - 1=t:=⟨_,rfl⟩
   have HT:Hid ((k:Int) - 1=t):=ht
   rw [ht] at j0 ⊢
   clear ht
   have ht1:-1≤t∧t < 300:=by have:=HT.out;omega
   go_wp2_with fail
   go_loopw [5,6] (fun hs i wq=>∃ q:Nat,q≤n∧i=.int .i64 q∧hs=.bool (fstL h t q).isSome∧Below wo.heap.size wo wq) (fun _ i _=>n - (intOf i).toNat)
   case atStart=>exact ⟨0,Nat.zero_le _,rfl,rfl,Below.refl _ _⟩
   case round =>
    obtain ⟨q,hq,rfl,rfl,hbq⟩:=hrel
    by_cases hqn:q < n
    ·have hq1:q < h.length:=by have:=HN.out;omega
     obtain ⟨bb,off,rfl,HQ⟩:=HC.out (by have:=HN.out;omega)
     have c1:=(HQ.out q hq1 _ (bel_trans hbw hbq)).2.1
     obtain ⟨x1,hx⟩:∃ x,(ev h q).2.1=x:=⟨_,rfl⟩
     have HX:Hid ((ev h q).2.1=x1):=hx
     rw [hx] at c1
     clear hx
     cases hf:fstL h t q with
     | some f =>
       have HF:Hid (fstL h t (q+1)=some f):=fstL_old h t q f hf
       clear hf
       simp only [Option.isSome_some]
       go_wp2_with fail
       refine ⟨⟨q+1,by omega,by first | go_num | simp,by rw [HF.out];rfl,hbq⟩,by simp [intOf];omega⟩
     | none =>
       simp only [Option.isSome_none]
       by_cases d:x1=t
       ·have e1:(x1==t)=true:=by rw [d];exact beq_self_eq_true _
        have HF:Hid (fstL h t (q+1)=some q):=fstL_new h t q hf (by rw [HX.out];exact d)
        clear hf d
        go_wp2_with fail
        refine ⟨⟨q+1,by omega,by first | go_num | simp,by rw [HF.out];rfl,hbq⟩,by simp [intOf];omega⟩
       ·have e1:(x1==t)=false:=beq_eq_false_iff_ne.2 d
        have HF:Hid (fstL h t (q+1)=none):=fstL_skip h t q hf (by rw [HX.out];exact d)
        clear hf d
        go_wp2_with fail
        refine ⟨⟨q+1,by omega,by first | go_num | simp,by rw [HF.out];rfl,hbq⟩,by simp [intOf];omega⟩
    ·obtain rfl:q=n:=by omega
     have B1:=bel_trans hbw hbq
     have hrowq:=owns_below hrow hbq
     have HK:Hid (ndOf h k=if commL h t=none then none else some t):=by show _=_;unfold ndOf;rw [HT.out]
     cases hf:fstL h t q with
     | none =>
       have HE:Hid (ndL h (k+1)=ndL h k):=by
        show _=_
        rw [nd_next,HK.out,if_pos (comm_has h t (by rw [HN.out];exact hf))]
        simp
       clear hf
       simp only [Option.isSome_none]
       go_wp2_with fail
       refine ⟨⟨k+1,c,by omega,by omega,by have:=HT.out;simp;omega,by rw [HE.out];exact HL.out,B1,by rw [HE.out];exact hrowq⟩,by have:=HT.out;simp [intOf];omega⟩
     | some f =>
       simp only [Option.isSome_some]
       go_wp2_with fail
       refine (C1 t _ B1).mono ?_
       rintro e w1 ⟨rfl,b1⟩
       have B2:=bel_trans B1 b1
       have hrow1:=owns_below hrowq b1
       clear hf
       rcases hcm:commL h t with _ | e
       ·have HE:Hid (ndL h (k+1)=ndL h k):=by
         show _=_
         rw [nd_next,HK.out,if_pos hcm]
         simp
        simp only [oI]
        clear hcm
        go_wp2_with fail
        refine ⟨⟨k+1,c,by omega,by omega,by have:=HT.out;simp;omega,by rw [HE.out];exact HL.out,B2,by rw [HE.out];exact hrow1⟩,by have:=HT.out;simp [intOf];omega⟩
       ·have HE:Hid (ndL h (k+1)=ndL h k++[t]):=by
         show _=_
         rw [nd_next,HK.out,if_neg (by rw [hcm];simp)]
         rfl
        simp only [oI]
        clear hcm
        have je:(0:Int)≤(e:Int):=by omega
        have hsz1:=B2.size
        go_wp2_with (at_builtin;refine wpList_append_own _ rfl _ _ 23 rfl w.heap.size 3 i0 (.int .i64 0) 1 8 Tryz.underlying23 hi hz0 hz1 hz2 rfl (by decide) _ _ _ rfl (hrow1.alloc _) ⟨w1.heap.size,0,none⟩ 1 1 [.int .i64 t] rfl rfl ?a1 ?a2 ?a3 ?a4 ?a5 ?_)
        case a1=>intro j u hj;match j,hj with
         | 0,hj=>simp at hj;subst hj;simp [Addr.add]
        case a2=>intro u hu;simp at hu;subst hu;rfl
        case a3=>unfold maxLen;omega
        case a4=>omega
        case a5=>simp;omega
        intro v' w2 hown2 hg2 _
        have B3:Below w.heap.size w w2:=(B2.alloc B2.size _).grown hg2 (by simp;omega) (fun j hj=>(hrow1.lt j hj).1)
        go_wp2_with fail
        refine ⟨⟨k+1,c+1,by omega,by omega,by have:=HT.out;simp;omega,by rw [HE.out,List.length_append,HL.out];rfl,B3,by rw [HE.out,recN_snoc];exact hown2⟩,by have:=HT.out;simp [intOf];omega⟩
  ·obtain rfl:k=301:=by omega
   go_wp2_with fail
   go_ret
   refine ⟨_,rfl,hbw,?_⟩
   show World.ownsRow _ _ _ _ _ (ndL h 301).length (recV intV (ndL h 301))
   rw [HL.out]
   exact hrow
end Go.Proofs.YtiihegldhnlleaaGreat
