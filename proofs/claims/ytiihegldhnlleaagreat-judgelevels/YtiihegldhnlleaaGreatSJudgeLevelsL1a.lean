/-
  The walk of JudgeLevels.
-/
import Derived.Test.YtiihegldhnlleaaGreatCShown12
import Derived.Test.YtiihegldhnlleaaGreatSJudgeLevelsL0a
import Derived.Deep.RegionHeld3
namespace Go.Proofs.YtiihegldhnlleaaGreat
set_option maxRecDepth 100000
open Go.RowKit
set_option linter.unusedVariables false
attribute [local go_sem] ba_size
set_option maxHeartbeats 4000000 in
theorem levels12_walk (C:P12C) (w:World) (vh:Value) (h:List Ev) (Th:IsEvs w vh h) (Gh:∀ x∈h,goodE x) :
 Calls Tryz.prog 6 #[vh] w fun e w'=>e=.returned (.bool true)∧Below w.heap.size w w':=by
 have HSh:Hid (∀ W,Below w.heap.size w W→Calls Tryz.prog 10 #[] W fun e w'=>e=.returned (.bool true)∧Below W.heap.size W w'):=fun W h=>shown12_any C W
 have HF:Hid (∀ W,Below w.heap.size w W→Calls Tryz.prog 11 #[vh] W fun e w'=>e=.returned (.bool (decide (h.length≤80)))∧Below W.heap.size W w'):=fun W hb=>few12_any vh h W (Th.below hb)
 by_cases h1:h.length≤80
 ·rw [decide_eq_true h1] at HF
  have HJ1:Hid (∀ W,Below w.heap.size w W→Calls Tryz.prog 12 #[vh,.int .i64 1] W fun e w'=>VRes W (judgeL h 1) e w'):=fun W hb=>C.judge h vh W 1 (Th.below hb) Gh (by omega) (by omega)
  have HJ2:Hid (∀ W,Below w.heap.size w W→Calls Tryz.prog 12 #[vh,.int .i64 2] W fun e w'=>VRes W (judgeL h 2) e w'):=fun W hb=>C.judge h vh W 2 (Th.below hb) Gh (by omega) (by omega)
  have HN:Hid (∀ W,Below w.heap.size w W→Calls Tryz.prog 21 #[vh] W fun e w'=>InRow W (nodeL h) e w'):=fun W hb=>rnodes_any h vh W (Th.below hb)
  have hlv:=judge_levels h
  have hnd:=judge_nodes h 1
  have hnl:(nodeL h).length≤301:=nd_len h 301
  obtain ⟨⟨⟨l1,a1,o1,⟨p1,q1,r1⟩,g1⟩,x⟩,hx1⟩:∃ y,judgeL h 1=y:=⟨_,rfl⟩
  obtain ⟨⟨⟨l2,a2,o2,⟨p2,q2,r2⟩,g2⟩,x2⟩,hx2⟩:∃ y,judgeL h 2=y:=⟨_,rfl⟩
  rw [hx1] at HJ1 hlv hnd
  rw [hx2] at HJ2 hlv
  simp only at hlv hnd
  obtain ⟨rfl,hacc⟩:=hlv
  obtain ⟨NL,hNL⟩:∃ y,nodeL h=y:=⟨_,rfl⟩
  rw [hNL] at HN hnd hnl
  obtain ⟨ah,ch,rfl,ih,jh,kh,HCh⟩:=Th.reads
  obtain ⟨n,hn⟩:∃ n,h.length=n:=⟨_,rfl⟩
  rw [hn] at HF HJ1 HJ2 HN ⊢
  have e_x:(x != x)=false:=bne_self_eq_false x
  clear hx1 hx2 hn hNL
  cases a1 with
  | false =>
    clear hnd hacc
    by_cases hx0:x=0
    ·subst hx0
     cases a2 with
     | true =>
       skip
       go_enter Tryz.func6,Tryz.ntmps6
       go_wp2_with fail
       refine (HSh.out _ (Below.refl w.heap.size w)).mono ?_
       rintro e w1 ⟨rfl,b1⟩
       have B1:=bel_trans (Below.refl w.heap.size w) b1
       go_wp2_with fail
       refine (HF.out _ B1).mono ?_
       rintro e w2 ⟨rfl,b2⟩
       have B2:=bel_trans B1 b2
       go_wp2_with fail
       refine (HJ1.out _ B2).mono ?_
       rintro e w3 ⟨vo,vr,rfl,b3,O3,R3⟩
       obtain ⟨oa1,oc1,rfl⟩:=own_shape13 O3
       obtain ⟨ra1,rc1,rfl⟩:=own_shape13 R3
       have B3:=bel_trans B2 b3
       have X3:=SBox.new w3 28 #[.int .i64 l1,.bool false,.slice oa1 o1.length oc1,.int .i64 p1,.int .i64 q1,.int .i64 r1,.slice ra1 g1.length rc1]
       have D3:=B3.alloc B3.size (.cells #[.int .i64 l1,.bool false,.slice oa1 o1.length oc1,.int .i64 p1,.int .i64 q1,.int .i64 r1,.slice ra1 g1.length rc1] 28)
       go_wp2_with fail
       refine (HJ2.out _ D3).mono ?_
       rintro e w4 ⟨vo,vr,rfl,b4,O4,R4⟩
       obtain ⟨oa2,oc2,rfl⟩:=own_shape13 O4
       obtain ⟨ra2,rc2,rfl⟩:=own_shape13 R4
       have B4:=bel_trans D3 b4
       have X4:=(X3.below b4).alloc (.cells #[.int .i64 l2,.bool true,.slice oa2 o2.length oc2,.int .i64 p2,.int .i64 q2,.int .i64 r2,.slice ra2 g2.length rc2] 28)
       have Y4:=SBox.new w4 28 #[.int .i64 l2,.bool true,.slice oa2 o2.length oc2,.int .i64 p2,.int .i64 q2,.int .i64 r2,.slice ra2 g2.length rc2]
       have D4:=B4.alloc B4.size (.cells #[.int .i64 l2,.bool true,.slice oa2 o2.length oc2,.int .i64 p2,.int .i64 q2,.int .i64 r2,.slice ra2 g2.length rc2] 28)
       have u1:=X4.cell 1 _ rfl
       have z1:=Y4.cell 1 _ rfl
       clear O3 R3 O4 R4
       go_wp2_with fail
       go_ret
       exact ⟨rfl,D4⟩
     | false =>
       skip
       go_enter Tryz.func6,Tryz.ntmps6
       go_wp2_with fail
       refine (HSh.out _ (Below.refl w.heap.size w)).mono ?_
       rintro e w1 ⟨rfl,b1⟩
       have B1:=bel_trans (Below.refl w.heap.size w) b1
       go_wp2_with fail
       refine (HF.out _ B1).mono ?_
       rintro e w2 ⟨rfl,b2⟩
       have B2:=bel_trans B1 b2
       go_wp2_with fail
       refine (HJ1.out _ B2).mono ?_
       rintro e w3 ⟨vo,vr,rfl,b3,O3,R3⟩
       obtain ⟨oa1,oc1,rfl⟩:=own_shape13 O3
       obtain ⟨ra1,rc1,rfl⟩:=own_shape13 R3
       have B3:=bel_trans B2 b3
       have X3:=SBox.new w3 28 #[.int .i64 l1,.bool false,.slice oa1 o1.length oc1,.int .i64 p1,.int .i64 q1,.int .i64 r1,.slice ra1 g1.length rc1]
       have D3:=B3.alloc B3.size (.cells #[.int .i64 l1,.bool false,.slice oa1 o1.length oc1,.int .i64 p1,.int .i64 q1,.int .i64 r1,.slice ra1 g1.length rc1] 28)
       go_wp2_with fail
       refine (HJ2.out _ D3).mono ?_
       rintro e w4 ⟨vo,vr,rfl,b4,O4,R4⟩
       obtain ⟨oa2,oc2,rfl⟩:=own_shape13 O4
       obtain ⟨ra2,rc2,rfl⟩:=own_shape13 R4
       have B4:=bel_trans D3 b4
       have X4:=(X3.below b4).alloc (.cells #[.int .i64 l2,.bool false,.slice oa2 o2.length oc2,.int .i64 p2,.int .i64 q2,.int .i64 r2,.slice ra2 g2.length rc2] 28)
       have Y4:=SBox.new w4 28 #[.int .i64 l2,.bool false,.slice oa2 o2.length oc2,.int .i64 p2,.int .i64 q2,.int .i64 r2,.slice ra2 g2.length rc2]
       have D4:=B4.alloc B4.size (.cells #[.int .i64 l2,.bool false,.slice oa2 o2.length oc2,.int .i64 p2,.int .i64 q2,.int .i64 r2,.slice ra2 g2.length rc2] 28)
       have u1:=X4.cell 1 _ rfl
       have z1:=Y4.cell 1 _ rfl
       clear O3 R3 O4 R4
       go_wp2_with fail
       go_ret
       exact ⟨rfl,D4⟩
    ·have e_0:(x==0)=false:=beq_eq_false_iff_ne.2 hx0
     go_enter Tryz.func6,Tryz.ntmps6
     go_wp2_with fail
     refine (HSh.out _ (Below.refl w.heap.size w)).mono ?_
     rintro e w1 ⟨rfl,b1⟩
     have B1:=bel_trans (Below.refl w.heap.size w) b1
     go_wp2_with fail
     refine (HF.out _ B1).mono ?_
     rintro e w2 ⟨rfl,b2⟩
     have B2:=bel_trans B1 b2
     go_wp2_with fail
     refine (HJ1.out _ B2).mono ?_
     rintro e w3 ⟨vo,vr,rfl,b3,O3,R3⟩
     obtain ⟨oa1,oc1,rfl⟩:=own_shape13 O3
     obtain ⟨ra1,rc1,rfl⟩:=own_shape13 R3
     have B3:=bel_trans B2 b3
     have X3:=SBox.new w3 28 #[.int .i64 l1,.bool false,.slice oa1 o1.length oc1,.int .i64 p1,.int .i64 q1,.int .i64 r1,.slice ra1 g1.length rc1]
     have D3:=B3.alloc B3.size (.cells #[.int .i64 l1,.bool false,.slice oa1 o1.length oc1,.int .i64 p1,.int .i64 q1,.int .i64 r1,.slice ra1 g1.length rc1] 28)
     go_wp2_with fail
     refine (HJ2.out _ D3).mono ?_
     rintro e w4 ⟨vo,vr,rfl,b4,O4,R4⟩
     obtain ⟨oa2,oc2,rfl⟩:=own_shape13 O4
     obtain ⟨ra2,rc2,rfl⟩:=own_shape13 R4
     have B4:=bel_trans D3 b4
     have X4:=(X3.below b4).alloc (.cells #[.int .i64 l2,.bool a2,.slice oa2 o2.length oc2,.int .i64 p2,.int .i64 q2,.int .i64 r2,.slice ra2 g2.length rc2] 28)
     have Y4:=SBox.new w4 28 #[.int .i64 l2,.bool a2,.slice oa2 o2.length oc2,.int .i64 p2,.int .i64 q2,.int .i64 r2,.slice ra2 g2.length rc2]
     have D4:=B4.alloc B4.size (.cells #[.int .i64 l2,.bool a2,.slice oa2 o2.length oc2,.int .i64 p2,.int .i64 q2,.int .i64 r2,.slice ra2 g2.length rc2] 28)
     have u1:=X4.cell 1 _ rfl
     have z1:=Y4.cell 1 _ rfl
     clear O3 R3 O4 R4
     go_wp2_with fail
     go_ret
     exact ⟨rfl,D4⟩
  | true =>
    obtain ⟨rfl,hol,hnd1,hmem⟩:=hnd rfl
    obtain rfl:a2=true:=hacc rfl
    have HCN:Hid (∀ y∈NL,cnT o1 y o1.length=1):=fun y hy=>by
     unfold cnT
     rw [List.take_length,hnd1.count,if_pos ((hmem y).2 hy)]
    have HOL:Hid (o1.length=NL.length):=hol
    have hob:o1.length≤301:=by omega
    clear hnd hacc hnd1 hmem hol
    go_enter Tryz.func6,Tryz.ntmps6
    go_wp2_with fail
    refine (HSh.out _ (Below.refl w.heap.size w)).mono ?_
    rintro e w1 ⟨rfl,b1⟩
    have B1:=bel_trans (Below.refl w.heap.size w) b1
    go_wp2_with fail
    refine (HF.out _ B1).mono ?_
    rintro e w2 ⟨rfl,b2⟩
    have B2:=bel_trans B1 b2
    go_wp2_with fail
    refine (HJ1.out _ B2).mono ?_
    rintro e w3 ⟨vo,vr,rfl,b3,O3,R3⟩
    obtain ⟨oa1,oc1,rfl⟩:=own_shape13 O3
    obtain ⟨ra1,rc1,rfl⟩:=own_shape13 R3
    have B3:=bel_trans B2 b3
    have X3:=SBox.new w3 28 #[.int .i64 l1,.bool true,.slice oa1 o1.length oc1,.int .i64 p1,.int .i64 q1,.int .i64 r1,.slice ra1 g1.length rc1]
    have D3:=B3.alloc B3.size (.cells #[.int .i64 l1,.bool true,.slice oa1 o1.length oc1,.int .i64 p1,.int .i64 q1,.int .i64 r1,.slice ra1 g1.length rc1] 28)
    go_wp2_with fail
    refine (HJ2.out _ D3).mono ?_
    rintro e w4 ⟨vo,vr,rfl,b4,O4,R4⟩
    obtain ⟨oa2,oc2,rfl⟩:=own_shape13 O4
    obtain ⟨ra2,rc2,rfl⟩:=own_shape13 R4
    have B4:=bel_trans D3 b4
    have X4:=(X3.below b4).alloc (.cells #[.int .i64 l2,.bool true,.slice oa2 o2.length oc2,.int .i64 p2,.int .i64 q2,.int .i64 r2,.slice ra2 g2.length rc2] 28)
    have Y4:=SBox.new w4 28 #[.int .i64 l2,.bool true,.slice oa2 o2.length oc2,.int .i64 p2,.int .i64 q2,.int .i64 r2,.slice ra2 g2.length rc2]
    have D4:=B4.alloc B4.size (.cells #[.int .i64 l2,.bool true,.slice oa2 o2.length oc2,.int .i64 p2,.int .i64 q2,.int .i64 r2,.slice ra2 g2.length rc2] 28)
    have u1:=X4.cell 1 _ rfl
    have z1:=Y4.cell 1 _ rfl
    have TA0:IsInts w3 (.slice oa1 o1.length oc1) o1:=IsRec.own (L:=o1) (n:=o1.length) intV_len (by omega) O3 (by omega)
    have b34:Below w3.heap.size w3 (w4.alloc (.cells #[.int .i64 l2,.bool true,.slice oa2 o2.length oc2,.int .i64 p2,.int .i64 q2,.int .i64 r2,.slice ra2 g2.length rc2] 28)):=by
     have q1:Below w3.heap.size w3 (w3.alloc (.cells #[.int .i64 l1,.bool true,.slice oa1 o1.length oc1,.int .i64 p1,.int .i64 q1,.int .i64 r1,.slice ra1 g1.length rc1] 28)):=(Below.refl _ _).alloc (Nat.le_refl _) _
     have q2:=bel_trans q1 b4
     exact q2.alloc q2.size _
    clear O3 R3 O4 R4
    go_wp2_with fail
    refine (HN.out _ D4).mono ?_
    rintro e w5 ⟨vn,rfl,b5,o5⟩
    have B5:=bel_trans D4 b5
    have X5:=X4.below b5
    have T_n:IsInts w5 vn NL:=IsRec.own (L:=NL) intV_len (by omega) o5 (by omega)
    have T_o:=TA0.below (bel_trans b34 b5)
    clear u1 z1 X3 X4 Y4 TA0
    obtain ⟨a_n,c_n,rfl,i_n,j_n,k_n,HCn⟩:=IsInts.reads T_n
    obtain ⟨a_o,c_o,eo,i_o,j_o,k_o,HCo⟩:=IsInts.reads T_o
    simp only [Value.slice.injEq] at eo
    obtain ⟨rfl,_,rfl⟩:=eo
    obtain ⟨nn,hnn⟩:∃ nn,NL.length=nn:=⟨_,rfl⟩
    have HNN:Hid (NL.length=nn):=hnn
    obtain ⟨no,hno⟩:∃ no,o1.length=no:=⟨_,rfl⟩
    have HNO:Hid (o1.length=no):=hno
    have HCB:Hid (∀ V,Below w5.heap.size w5 V→V.cell? ⟨w3.heap.size,2,none⟩=some (.slice oa1 no oc1)):=fun V hV=>by
     have:=(X5.below hV).cell 2 _ rfl
     rw [hno] at this
     exact this
    have e_len:((no:Int)==(nn:Int))=true:=by rw [← hno,HOL.out,hnn];exact beq_self_eq_true _
    rw [hnn] at i_n k_n ⊢
    rw [hno] at i_o k_o ⊢
    clear hnn hno T_n T_o o5 X5
    go_wp2_with fail
    go_loopw [10] (fun kv wr=>∃ k:Nat,k≤nn∧kv=.int .i64 k∧Below w5.heap.size w5 wr) (fun kv _=>nn - (intOf kv).toNat)
    case atStart=>exact ⟨0,Nat.zero_le _,rfl,Below.refl _ _⟩
    case round =>
     obtain ⟨wA,rfl⟩:∃ wA,wA=wr:=⟨_,rfl⟩
     obtain ⟨k,hk,rfl,hbk⟩:=hrel
     have cb:=HCB.out _ hbk
     by_cases hlk:k < nn
     ·have jk:(k:Int) < (nn:Int):=by omega
      have jwk:IntKind.i64.wrap ((k:Int)+1)=(k:Int)+1:=by rw [IntKind.wrap_i64];omega
      obtain ⟨bn,on,rfl,HQn⟩:=HCn.out (by have:=HNN.out;omega)
      have HX1:Hid (cnT o1 (NL.getD k 0) o1.length=1):=HCN.out _ (by
       have:k < NL.length:=by have:=HNN.out;omega
       rw [List.getD_eq_getElem?_getD,List.getElem?_eq_getElem this]
       exact List.getElem_mem _)
      have HXC:Hid (∀ V,Below w5.heap.size w5 V→V.cell? ⟨bn,on+k,none⟩=some (.int .i64 (NL.getD k 0))):=fun V hV=>HQn.out k (by have:=HNN.out;omega) V hV
      obtain ⟨x,hx⟩:∃ x,NL.getD k 0=x:=⟨_,rfl⟩
      rw [hx] at HX1 HXC
      clear hx
      go_wp2_with fail
      go_loopw [11,12] (fun mv iv wr=>∃ m c:Nat,m≤no∧c≤m∧iv=.int .i64 m∧mv=.int .i64 c∧Hid (cnT o1 x m=c)∧Below w5.heap.size w5 wr) (fun _ iv _=>no - (intOf iv).toNat)
      case atStart=>exact ⟨0,0,Nat.zero_le _,Nat.le_refl _,rfl,rfl,by show _=_;unfold cnT;simp,hbk⟩
      case round =>
       obtain ⟨m,c,hm,hc,rfl,rfl,HCM,hbm⟩:=hrel
       have cm:=HCB.out _ hbm
       by_cases hlm:m < no
       ·have jm:(m:Int) < (no:Int):=by omega
        have jwm:IntKind.i64.wrap ((m:Int)+1)=(m:Int)+1:=by rw [IntKind.wrap_i64];omega
        have jwc:IntKind.i64.wrap ((c:Int)+1)=(c:Int)+1:=by rw [IntKind.wrap_i64];omega
        have hmo:m < o1.length:=by have:=HNO.out;omega
        obtain ⟨bo,oo,rfl,HQo⟩:=HCo.out (by omega)
        have c1:=HQo.out m hmo _ hbm
        have c2:=HXC.out _ hbm
        have HY:=cnT_yes o1 x m hmo
        have HNo:=cnT_no o1 x m hmo
        have ey:o1.getD m 0=o1[m]:=by rw [List.getD_eq_getElem?_getD,List.getElem?_eq_getElem hmo];rfl
        rw [ey] at c1
        obtain ⟨y,hy⟩:∃ y,o1[m]=y:=⟨_,rfl⟩
        rw [hy] at c1 HY HNo
        clear hy ey hmo
        by_cases hxy:y=x
        ·have HZ:Hid (cnT o1 x (m+1)=c+1):=by show _=_;rw [HY hxy,HCM.out]
         subst hxy
         clear HY HNo
         go_wp2_with fail
         go_quiet (fail)
         go_wp2_with fail
         refine ⟨⟨m+1,c+1,by omega,by omega,by first | go_num | simp,by first | go_num | simp,HZ,below_drewN hbm _⟩,by simp [intOf];omega⟩
        ·have HZ:Hid (cnT o1 x (m+1)=c):=by show _=_;rw [HNo hxy,HCM.out]
         have hxy2:(y==x)=false:=beq_eq_false_iff_ne.2 hxy
         clear HY HNo hxy
         go_wp2_with fail
         go_quiet (fail)
         go_wp2_with fail
         refine ⟨⟨m+1,c,by omega,by omega,by first | go_num | simp,rfl,HZ,below_drewN hbm _⟩,by simp [intOf];omega⟩
       ·obtain rfl:m=no:=by omega
        have jm:¬ (m:Int) < (m:Int):=by omega
        have hc1:c=1:=by have:=HX1.out;rw [HNO.out,HCM.out] at this;exact this
        subst hc1
        go_wp2_with fail
        refine ⟨⟨k+1,by omega,by first | go_num | simp,hbm⟩,by simp [intOf];omega⟩
     ·obtain rfl:k=nn:=by omega
      have jk:¬ (k:Int) < (k:Int):=by omega
      go_wp2_with fail
      go_ret
      exact ⟨rfl,bel_trans B5 hbk⟩
 ·rw [decide_eq_false h1] at HF
  obtain ⟨ah,ch,rfl,ih,jh,kh,HCh⟩:=Th.reads
  obtain ⟨n,hn⟩:∃ n,h.length=n:=⟨_,rfl⟩
  rw [hn] at HF ⊢
  clear hn
  go_enter Tryz.func6,Tryz.ntmps6
  go_wp2_with fail
  refine (HSh.out _ (Below.refl w.heap.size w)).mono ?_
  rintro e w1 ⟨rfl,b1⟩
  have B1:=bel_trans (Below.refl w.heap.size w) b1
  go_wp2_with fail
  refine (HF.out _ B1).mono ?_
  rintro e w2 ⟨rfl,b2⟩
  have B2:=bel_trans B1 b2
  go_wp2_with fail
  go_ret
  exact ⟨rfl,B2⟩
end Go.Proofs.YtiihegldhnlleaaGreat
