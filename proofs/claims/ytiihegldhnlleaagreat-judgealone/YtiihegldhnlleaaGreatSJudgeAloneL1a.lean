/-
  The walk of JudgeAlone.
-/
import Derived.Test.YtiihegldhnlleaaGreatCShown12
import Derived.Test.YtiihegldhnlleaaGreatSJudgeAloneL0a
import Derived.Test.YtiihegldhnlleaaGreatCR8Formed
import Derived.Deep.RegionHeld3
namespace Go.Proofs.YtiihegldhnlleaaGreat
set_option maxRecDepth 100000
open Go.RowKit
set_option linter.unusedVariables false
attribute [local go_sem] ba_size
def alN (h:List Ev) (i:Nat):List Ev:=((livesL h).take i).flatMap fun y=>ownOf h y.1
theorem alone_next (h:List Ev) (i:Nat) (hi:i < (livesL h).length):alN h (i+1)=alN h i++ownOf h ((livesL h)[i]).1:=by
 unfold alN
 rw [List.take_succ_eq_append_getElem hi,List.flatMap_append,List.flatMap_cons,List.flatMap_nil,List.append_nil]
theorem alone_all (h:List Ev):alN h (livesL h).length=aloneL h:=by unfold alN aloneL;rw [List.take_length]
theorem own_next (h:List Ev) (t:Int) (k:Nat) (hk:k < h.length):ownOf (h.take (k+1)) t=if (ev h k).2.1=t∧(ev h k).1≠2 then ownOf (h.take k) t++[ev h k] else ownOf (h.take k) t:=by
 unfold ownOf
 rw [List.take_succ_eq_append_getElem hk,List.filter_append,← ev_get h k hk]
 by_cases hc:(ev h k).2.1=t∧(ev h k).1≠2
 ·rw [if_pos hc];simp only [List.filter_cons,List.filter_nil,decide_eq_true hc,if_true]
 ·rw [if_neg hc];simp only [List.filter_cons,List.filter_nil,decide_eq_false hc];simp
set_option maxHeartbeats 4000000 in
theorem alone12_walk (C:P12C) (w:World) (vh:Value) (h:List Ev) (Th:IsEvs w vh h) (Gh:∀ x∈h,goodE x) :
 Calls Tryz.prog 8 #[vh] w fun e w'=>e=.returned (.bool true)∧Below w.heap.size w w':=by
 have HSh:Hid (∀ W,Below w.heap.size w W→Calls Tryz.prog 10 #[] W fun e w'=>e=.returned (.bool true)∧Below W.heap.size W w'):=fun W h=>shown12_any C W
 have HF:Hid (∀ W,Below w.heap.size w W→Calls Tryz.prog 11 #[vh] W fun e w'=>e=.returned (.bool (decide (h.length≤80)))∧Below W.heap.size W w'):=fun W hb=>few12_any vh h W (Th.below hb)
 have HM:Hid (∀ W,Below w.heap.size w W→Calls Tryz.prog 19 #[vh] W fun e w'=>e=.returned (.tuple #[.int .i64 ((formedL h).1:Int),.int .i64 ((formedL h).2:Int)])∧Below W.heap.size W w'):=fun W hb=>rformed_any h vh W (Th.below hb)
 by_cases h1:h.length≤80
 ·rw [decide_eq_true h1] at HF
  by_cases h2:(formedL h).2=0
  ·have hw:=(formed_ok h).1 h2
   have HL:Hid (∀ W,Below w.heap.size w W→Calls Tryz.prog 22 #[vh] W fun e w'=>LfRow 51 W (livesL h) e w'):=fun W hb=>rlives_any h vh W (Th.below hb) (by omega)
   have ja1:=judge_alone hw 1 (.inl rfl)
   have ja2:=judge_alone hw 2 (.inr rfl)
   have bL:=lives_len h
   have bA:=alone_len h
   have GA:∀ x∈aloneL h,goodE x:=fun x hx=>Gh x (alone_mem h x hx).1
   have J1:Hid (∀ v W,IsEvs W v (aloneL h)→Calls Tryz.prog 12 #[v,.int .i64 1] W fun e w'=>VRes W (judgeL (aloneL h) 1) e w'):=fun v W T=>C.judge (aloneL h) v W 1 T GA (by omega) (by omega)
   have J2:Hid (∀ v W,IsEvs W v (aloneL h)→Calls Tryz.prog 12 #[v,.int .i64 2] W fun e w'=>VRes W (judgeL (aloneL h) 2) e w'):=fun v W T=>C.judge (aloneL h) v W 2 T GA (by omega) (by omega)
   obtain ⟨⟨⟨l1,a1,o1,⟨p1,q1,r1⟩,g1⟩,x1⟩,hx1⟩:∃ y,judgeL (aloneL h) 1=y:=⟨_,rfl⟩
   obtain ⟨⟨⟨l2,a2,o2,⟨p2,q2,r2⟩,g2⟩,x2⟩,hx2⟩:∃ y,judgeL (aloneL h) 2=y:=⟨_,rfl⟩
   rw [hx1] at J1 ja1
   rw [hx2] at J2 ja2
   simp only at ja1 ja2
   obtain ⟨rfl,rfl⟩:=ja1
   obtain ⟨rfl,rfl⟩:=ja2
   clear hx1 hx2 GA hw
   obtain ⟨ah,ch,rfl,ih,jh,kh,HCh⟩:=Th.reads
   obtain ⟨n,hn⟩:∃ n,h.length=n:=⟨_,rfl⟩
   obtain ⟨f1,hf1⟩:∃ y,(formedL h).1=y:=⟨_,rfl⟩
   obtain ⟨f2,hf2⟩:∃ y,(formedL h).2=y:=⟨_,rfl⟩
   rw [hf1,hf2] at HM
   rw [h2] at hf2
   subst hf2
   have HN:Hid (h.length=n):=hn
   rw [hn] at HF HM HL ih kh h1 bL bA ⊢
   obtain ⟨nl,hnl⟩:∃ nl,(livesL h).length=nl:=⟨_,rfl⟩
   have HNL:Hid ((livesL h).length=nl):=hnl
   rw [hnl] at bL
   clear hn hf1 h2 hnl
   obtain ⟨i0,hi,hz0,hz1,hz2⟩:=info_parts ev_info7
   go_enter Tryz.func8,Tryz.ntmps8
   go_wp2_with fail
   refine (HSh.out _ (Below.refl w.heap.size w)).mono ?_
   rintro e w1 ⟨rfl,b1⟩
   have B1:=bel_trans (Below.refl w.heap.size w) b1
   go_wp2_with fail
   refine (HF.out _ B1).mono ?_
   rintro e w2 ⟨rfl,b2⟩
   have B2:=bel_trans B1 b2
   go_wp2_with fail
   refine (HM.out _ B2).mono ?_
   rintro e w3 ⟨rfl,b3⟩
   have B3:=bel_trans B2 b3
   go_wp2_with fail
   refine (HL.out _ B3).mono ?_
   rintro e w4 ⟨vl,rfl,b4,o4⟩
   have B4:=bel_trans B3 b4
   have T_l:IsLfs w4 vl (livesL h):=IsRec.own (L:=livesL h) lifV_len (by omega) o4 (by rw [HNL.out];omega)
   obtain ⟨al,cl,rfl,i_l,j_l,k_l,HCl⟩:=T_l.some_at
   rw [HNL.out] at i_l k_l ⊢
   clear T_l o4
   go_wp2_with fail
   go_loopw [7,9] (fun r iv wr=>∃ (i c:Nat),i≤nl∧c≤i*80∧iv=.int .i64 i∧Hid ((alN h i).length=c)∧Below w4.heap.size w4 wr∧wr.ownsRow w4.heap.size 49 4 r c (recV evV (alN h i))) (fun _ iv _=>nl - (intOf iv).toNat)
   case atStart=>exact ⟨0,0,Nat.zero_le _,Nat.zero_le _,rfl,rfl,Below.refl _ _,World.ownsRow_nil _ _ _ _⟩
   case round =>
    obtain ⟨wA,rfl⟩:∃ wA,wA=wr:=⟨_,rfl⟩
    obtain ⟨i,c,hi1,hc1,rfl,HA,hbA,hrowA⟩:=hrel
    by_cases hli:i < nl
    ·have ji:(i:Int) < (nl:Int):=by omega
     have hi2:i < (livesL h).length:=by have:=HNL.out;omega
     have HAN:Hid (alN h (i+1)=alN h i++ownOf h ((livesL h)[i]'hi2).1):=alone_next h i hi2
     obtain ⟨bl,ol,rfl,hbl,hcl⟩:=HCl.out i hi2
     have HT:Hid (∀ V,Below w4.heap.size w4 V→V.cell? ⟨bl,ol+i*4,none⟩=some (.int .i64 ((livesL h)[i]'hi2).1)):=fun V hV=>(hV.cell (p:=⟨bl,ol+i*4,none⟩) hbl).trans (hcl 0 _ rfl)
     obtain ⟨t,ht⟩:∃ t,((livesL h)[i]'hi2).1=t:=⟨_,rfl⟩
     rw [ht] at HAN HT
     clear ht hcl hi2
     go_wp2_with fail
     go_loopw [7,10] (fun r kv wr=>∃ (k d:Nat),k≤n∧d≤k∧kv=.int .i64 k∧Hid ((ownOf (h.take k) t).length=d)∧Below w4.heap.size w4 wr∧wr.ownsRow w4.heap.size 49 4 r (c+d) (recV evV (alN h i++ownOf (h.take k) t))) (fun _ kv _=>n - (intOf kv).toNat)
     case atStart=>exact ⟨0,0,Nat.zero_le _,Nat.zero_le _,rfl,rfl,hbA,by rw [List.take_zero,show ownOf [] t=[] from rfl,List.append_nil,Nat.add_zero];exact hrowA⟩
     case round =>
      obtain ⟨k,d,hk,hd,rfl,HL',hbw,hrow⟩:=hrel
      by_cases hlt:k < n
      ·have jk:(k:Int) < (n:Int):=by omega
       have hk1:k < h.length:=by have:=HN.out;omega
       obtain ⟨bb,off,rfl,HQ⟩:=HCh.out (by omega)
       obtain ⟨q0,q1',q2',q3⟩:=HQ.out k hk1 _ (bel_trans B4 hbw)
       have ct:=HT.out _ hbw
       have hnx:=own_next h t k hk1
       obtain ⟨⟨y0,y1,y2,y3⟩,hy⟩:∃ x,ev h k=x:=⟨_,rfl⟩
       rw [hy] at q0 q1' q2' q3 hnx
       simp only at q0 q1' q2' q3 hnx
       have HX:Hid (ownOf (h.take (k+1)) t=if y1=t∧y0≠2 then ownOf (h.take k) t++[(y0,y1,y2,y3)] else ownOf (h.take k) t):=hnx
       clear hy hnx
       by_cases e1:y1=t
       ·have j1:(y1==t)=true:=by rw [e1];exact beq_self_eq_true _
        by_cases e0:y0=2
        ·have j0:(y0 != 2)=false:=by rw [e0];rfl
         have HV:Hid (ownOf (h.take (k+1)) t=ownOf (h.take k) t):=by show _=_;rw [HX.out,if_neg (fun hh=>hh.2 e0)]
         clear e0 e1
         go_wp2_with fail
         go_quiet (fail)
         go_wp2_with fail
         refine ⟨⟨k+1,d,by omega,by omega,by first | go_num | simp,by rw [HV.out];exact HL',below_drewN hbw _,by rw [HV.out];exact hrow⟩,by simp [intOf];omega⟩
        ·have j0:(y0 != 2)=true:=bne_iff_ne.2 e0
         have HV:Hid (ownOf (h.take (k+1)) t=ownOf (h.take k) t++[(y0,y1,y2,y3)]):=by show _=_;rw [HX.out,if_pos ⟨e1,e0⟩]
         have HR:Hid (recV evV (alN h i++ownOf (h.take (k+1)) t)=recV evV (alN h i++ownOf (h.take k) t)++[.int .i64 y0,.int .i64 y1,.string ⟨y2.toArray⟩,.string ⟨y3.toArray⟩]):=by show _=_;rw [HV.out,← List.append_assoc,recV_append];rfl
         have HL2:Hid ((ownOf (h.take (k+1)) t).length=d+1):=by show _=_;rw [HV.out,List.length_append,HL'.out];rfl
         obtain ⟨DR,hDR⟩:∃ d,recV evV (alN h i++ownOf (h.take k) t)=d:=⟨_,rfl⟩
         rw [hDR] at hrow HR
         have sz:=hbw.size
         clear hDR e0 e1
         go_wp2_with fail
         go_quiet (fail)
         go_wp2_with (at_builtin;refine wpList_append_own _ rfl _ _ 22 rfl w4.heap.size 49 i0 (.agg #[.int .i64 0,.int .i64 0,.string ByteArray.empty,.string ByteArray.empty]) 4 48 Tryz.underlying22 hi hz0 hz1 hz2 rfl (by decide) _ _ _ rfl (hrow.alloc _) ⟨wr.heap.size,0,none⟩ 1 1 [.int .i64 y0,.int .i64 y1,.string ⟨y2.toArray⟩,.string ⟨y3.toArray⟩] rfl rfl ?d1 ?d2 ?d3 ?d4 ?d5 ?_)
         try
          case d1 =>
           intro j u hj
           match j,hj with
           | 0,hj=>simp at hj;subst hj;first | (simp [Addr.add];done) | exact cell_new7 (by simp) rfl
           | 1,hj=>simp at hj;subst hj;first | (simp [Addr.add];done) | exact cell_new7 (by simp) rfl
           | 2,hj=>simp at hj;subst hj;first | (simp [Addr.add];done) | exact cell_new7 (by simp) rfl
           | 3,hj=>simp at hj;subst hj;first | (simp [Addr.add];done) | exact cell_new7 (by simp) rfl
         try
          case d2=>first | exact evV_one (y0,y1,y2,y3) | exact ⟨rfl,rfl,rfl,rfl⟩
         try
          case d3=>unfold maxLen;omega
         try
          case d4=>omega
         try
          case d5=>first | (simp;done) | (simp;omega)
         intro v' w9 own9 g9 _
         have B9:Below w4.heap.size w4 w9:=((below_drewN hbw _).alloc (below_drewN hbw _).size _).grown g9 (by have:=hbw.size;simp at this ⊢;omega) (fun j hj=>(hrow.lt j hj).1)
         go_wp2_with fail
         refine ⟨⟨k+1,d+1,by omega,by omega,by first | go_num | simp,HL2,B9,by rw [HR.out];exact own9⟩,by simp [intOf];omega⟩
       ·have j1:(y1==t)=false:=beq_eq_false_iff_ne.2 e1
        have HV:Hid (ownOf (h.take (k+1)) t=ownOf (h.take k) t):=by show _=_;rw [HX.out,if_neg (fun hh=>e1 hh.1)]
        clear e1
        go_wp2_with fail
        go_quiet (fail)
        go_wp2_with fail
        refine ⟨⟨k+1,d,by omega,by omega,by first | go_num | simp,by rw [HV.out];exact HL',below_drewN hbw _,by rw [HV.out];exact hrow⟩,by simp [intOf];omega⟩
      ·obtain rfl:k=n:=by omega
       have jk:¬ (k:Int) < (k:Int):=by omega
       have hh:h.take k=h:=List.take_of_length_le (by have:=HN.out;omega)
       rw [hh,← HAN.out] at hrow
       rw [hh] at HL'
       go_wp2_with fail
       refine ⟨⟨i+1,c+d,by omega,by omega,by first | go_num | simp,by show _=_;rw [HAN.out,List.length_append,HA.out,HL'.out],hbw,hrow⟩,by simp [intOf];omega⟩
    ·obtain rfl:i=nl:=by omega
     have ji:¬ (i:Int) < (i:Int):=by omega
     have hal:alN h i=aloneL h:=by rw [← HNL.out];exact alone_all h
     rw [hal] at hrowA
     have T9:∀ W,Below wA.heap.size wA W→IsEvs W _ (aloneL h):=fun W hb=>IsRec.below (IsRec.own (L:=aloneL h) evV_len (by omega) hrowA (by omega)) hb
     obtain ⟨gk,ck,rfl⟩:=own_shape13 hrowA
     clear hal hrowA
     go_wp2_with fail
     refine (J1.out _ _ (T9 _ (Below.refl _ _))).mono ?_
     rintro e w5 ⟨vo,vr,rfl,b5,O5,R5⟩
     obtain ⟨oa1,oc1,rfl⟩:=own_shape13 O5
     obtain ⟨ra1,rc1,rfl⟩:=own_shape13 R5
     have X5:=SBox.new w5 28 #[.int .i64 l1,.bool true,.slice oa1 o1.length oc1,.int .i64 p1,.int .i64 q1,.int .i64 r1,.slice ra1 g1.length rc1]
     have D5:=b5.alloc b5.size (.cells #[.int .i64 l1,.bool true,.slice oa1 o1.length oc1,.int .i64 p1,.int .i64 q1,.int .i64 r1,.slice ra1 g1.length rc1] 28)
     have K2:=J2.out _ _ (T9 _ D5)
     clear O5 R5 T9
     go_wp2_with fail
     refine K2.mono ?_
     rintro e w6 ⟨vo,vr,rfl,b6,O6,R6⟩
     obtain ⟨oa2,oc2,rfl⟩:=own_shape13 O6
     obtain ⟨ra2,rc2,rfl⟩:=own_shape13 R6
     have X6:=(X5.below b6).alloc (.cells #[.int .i64 l2,.bool true,.slice oa2 o2.length oc2,.int .i64 p2,.int .i64 q2,.int .i64 r2,.slice ra2 g2.length rc2] 28)
     have Y6:=SBox.new w6 28 #[.int .i64 l2,.bool true,.slice oa2 o2.length oc2,.int .i64 p2,.int .i64 q2,.int .i64 r2,.slice ra2 g2.length rc2]
     have D6:=(bel_trans D5 b6).alloc (bel_trans D5 b6).size (.cells #[.int .i64 l2,.bool true,.slice oa2 o2.length oc2,.int .i64 p2,.int .i64 q2,.int .i64 r2,.slice ra2 g2.length rc2] 28)
     have u1:=X6.cell 1 _ rfl
     have u2:=Y6.cell 1 _ rfl
     clear O6 R6 X5 X6 Y6 K2
     go_wp2_with fail
     go_ret
     exact ⟨rfl,bel_trans B4 (bel_trans hbA D6)⟩
  ·have h3:(((formedL h).2:Int) != 0)=true:=bne_iff_ne.2 (by omega)
   obtain ⟨ah,ch,rfl,ih,jh,kh,HCh⟩:=Th.reads
   obtain ⟨n,hn⟩:∃ n,h.length=n:=⟨_,rfl⟩
   obtain ⟨f1,hf1⟩:∃ y,(formedL h).1=y:=⟨_,rfl⟩
   obtain ⟨f2,hf2⟩:∃ y,(formedL h).2=y:=⟨_,rfl⟩
   rw [hf1,hf2] at HM
   rw [hf2] at h3
   rw [hn] at HF HM ⊢
   clear hn hf1 hf2
   go_enter Tryz.func8,Tryz.ntmps8
   go_wp2_with fail
   refine (HSh.out _ (Below.refl w.heap.size w)).mono ?_
   rintro e w1 ⟨rfl,b1⟩
   have B1:=bel_trans (Below.refl w.heap.size w) b1
   go_wp2_with fail
   refine (HF.out _ B1).mono ?_
   rintro e w2 ⟨rfl,b2⟩
   have B2:=bel_trans B1 b2
   go_wp2_with fail
   refine (HM.out _ B2).mono ?_
   rintro e w3 ⟨rfl,b3⟩
   have B3:=bel_trans B2 b3
   go_wp2_with fail
   go_ret
   exact ⟨rfl,B3⟩
 ·rw [decide_eq_false h1] at HF
  obtain ⟨ah,ch,rfl,ih,jh,kh,HCh⟩:=Th.reads
  obtain ⟨n,hn⟩:∃ n,h.length=n:=⟨_,rfl⟩
  obtain ⟨f1,hf1⟩:∃ y,(formedL h).1=y:=⟨_,rfl⟩
  obtain ⟨f2,hf2⟩:∃ y,(formedL h).2=y:=⟨_,rfl⟩
  rw [hf1,hf2] at HM
  rw [hn] at HF HM ⊢
  clear hn hf1 hf2
  go_enter Tryz.func8,Tryz.ntmps8
  go_wp2_with fail
  refine (HSh.out _ (Below.refl w.heap.size w)).mono ?_
  rintro e w1 ⟨rfl,b1⟩
  have B1:=bel_trans (Below.refl w.heap.size w) b1
  go_wp2_with fail
  refine (HF.out _ B1).mono ?_
  rintro e w2 ⟨rfl,b2⟩
  have B2:=bel_trans B1 b2
  go_wp2_with fail
  refine (HM.out _ B2).mono ?_
  rintro e w3 ⟨rfl,b3⟩
  have B3:=bel_trans B2 b3
  go_wp2_with fail
  go_ret
  exact ⟨rfl,B3⟩
end Go.Proofs.YtiihegldhnlleaaGreat
