/-
  What cartoucheref13.Round answers.
-/
import Derived.Test.YtdlcimfifkhllaaGreatCL0d
namespace Go.Proofs.YtdlcimfifkhllaaGreat
set_option maxRecDepth 100000
open Go.RowKit
set_option linter.unusedVariables false
attribute [local go_sem] ba_size
theorem round_no (h:List Ev) (level:Int) (l:List Ed) (i:Nat) (hi:i < l.length) (hn:okR13 h level (at13 l i) (nx13 l i)=false):roundB h level l=false:=by
 unfold roundB
 rw [Bool.and_eq_false_iff]
 left
 rw [List.all_eq_false]
 exact ⟨i,List.mem_range.2 hi,by rw [hn];decide⟩
theorem round_yes (h:List Ev) (level:Int) (l:List Ed) (hh:∀ i,i < l.length→okR13 h level (at13 l i) (nx13 l i)=true):roundB h level l=decide (0 < l.length):=by
 unfold roundB
 rw [List.all_eq_true.2 (fun i hi=>hh i (List.mem_range.1 hi)),Bool.true_and]
set_option maxHeartbeats 4000000 in
theorem rround_any (h:List Ev) (vh vl:Value) (level:Int) (l:List Ed) (w:World) (hT:IsEvs w vh h) (hL:IsEds w vl l) :
 Calls Tryz.prog 17 #[vh,.int .i64 level,vl] w fun e w'=>e=.returned (.bool (roundB h level l))∧Below w.heap.size w w':=by
 have CH:=fun (k f t I J:Int) W (hW:Below w.heap.size w W)=>rholds_any h vh W (hT.below hW) k f t I J
 have N:=Lib.hid (round_no h level l)
 have Y:=Lib.hid (round_yes h level l)
 obtain ⟨al,cl,rfl,p1,p2,p3,HC⟩:=IsEds.reads hL
 obtain ⟨ah,ch,rfl,_⟩:=hT.some_at
 obtain ⟨r,hr⟩:∃ r,roundB h level l=r:=⟨_,rfl⟩
 rw [hr] at N Y ⊢
 obtain ⟨nh,hnh⟩:∃ m,h.length=m:=⟨_,rfl⟩
 rw [hnh] at CH ⊢
 obtain ⟨m,hm⟩:∃ m,l.length=m:=⟨_,rfl⟩
 have HM:=Lib.hid hm
 rw [hm] at p1 p3 ⊢
 clear hT hL hr hnh hm
 go_enter Tryz.func17,Tryz.ntmps17
 go_wp2_with fail
 go_loopw [7] (fun i wq=>∃ q:Nat,q≤m∧i=.int .i64 q∧Hid (∀ j,j < q→okR13 h level (at13 l j) (nx13 l j)=true)∧Below w.heap.size w wq) (fun i _=>m - (intOf i).toNat)
 case atStart=>exact ⟨0,Nat.zero_le _,rfl,(fun j hj=>by omega),Below.refl _ _⟩
 case round =>
  obtain ⟨q,hq,rfl,HB,hbq⟩:=hrel
  by_cases hlq:q < m
  ·have hq1:q < l.length:=by have:=HM.out;omega
   have h01:0 < l.length:=by omega
   have jq:(q:Int) < (m:Int):=by omega
   have jm:(0:Int) < (m:Int):=by omega
   have jm':0 < m:=by omega
   have jw:IntKind.i64.wrap ((q:Int)+1)=(q:Int)+1:=by rw [IntKind.wrap_i64];omega
   obtain ⟨bb,off,rfl,HQ⟩:=HC.out h01
   have HX:=Lib.hid (HQ.out q hq1)
   have HZ:=Lib.hid (HQ.out 0 h01)
   have HN1:=Lib.hid (N.out q hq1)
   have HB2:Hid (okR13 h level (at13 l q) (nx13 l q)=true→∀ j,j < q+1→okR13 h level (at13 l j) (nx13 l j)=true):=fun hh j hj=>by
    rcases Nat.lt_or_ge j q with hj2 | hj2
    ·exact HB.out j hj2
    ·obtain rfl:j=q:=by omega
     exact hh
   rw [← at13_get hq1] at HX
   rw [← at13_get h01] at HZ
   by_cases dn:q+1 < m
   ·have hn1:q+1 < l.length:=by have:=HM.out;omega
    have jn:(q:Int)+1 < (m:Int):=by omega
    have HY:=Lib.hid (HQ.out (q+1) hn1)
    have en:nx13 l q=l[q+1]:=by unfold nx13;rw [if_pos hn1];exact at13_get hn1
    rw [← en] at HY
    obtain ⟨⟨x0,x1,x2,x3,x4⟩,hx⟩:∃ x,at13 l q=x:=⟨_,rfl⟩
    obtain ⟨⟨y0,y1,y2,y3,y4⟩,hy⟩:∃ x,nx13 l q=x:=⟨_,rfl⟩
    obtain ⟨⟨z0,z1,z2,z3,z4⟩,hz⟩:∃ x,at13 l 0=x:=⟨_,rfl⟩
    rw [hx] at HX HN1 HB2
    rw [hy] at HY HN1 HB2
    rw [hz] at HZ
    clear hx hy hz en hn1 h01
    obtain ⟨u0,u1,u2,u3,u4⟩:=HX.out _ hbq
    obtain ⟨s0,s1,s2,s3,s4⟩:=HZ.out _ hbq
    simp only [Nat.zero_mul,Nat.add_zero] at s0 s1 s2 s3 s4
    have Ba:=hbq.alloc hbq.size (.cells #[.int .i64 z0,.int .i64 z1,.int .i64 z2,.int .i64 z3,.int .i64 z4] 71)
    obtain ⟨v0,v1,v2,v3,v4⟩:=HY.out _ Ba
    have Bb:=hbq.alloc hbq.size (.cells #[.int .i64 y0,.int .i64 y1,.int .i64 y2,.int .i64 y3,.int .i64 y4] 71)
    have Xb:=SBox.new wr 71 #[.int .i64 y0,.int .i64 y1,.int .i64 y2,.int .i64 y3,.int .i64 y4]
    clear u0 u1 u2 u3 u4
    have D:=CH x0 x1 x2 x3 x4
    obtain ⟨hc,hhc⟩:∃ b,holdsC h (x0,x1,x2,x3,x4)=b:=⟨_,rfl⟩
    have HH:=Lib.hid hhc
    rw [hhc] at D
    clear hhc
    obtain ⟨u0,u1,u2,u3,u4⟩:=HX.out _ Bb
    go_wp2_with fail
    refine (D _ Bb).mono ?_
    rintro e w1 ⟨rfl,b1⟩
    have B1:=bel_trans Bb b1
    have X1:=Xb.below b1
    obtain ⟨t0,t1,t2,t3,t4⟩:=HX.out _ B1
    have n0:=X1.cell 0 _ rfl
    have n1:=X1.cell 1 _ rfl
    clear u0 u1 u2 u3 u4 v0 v1 v2 v3 v4 s0 s1 s2 s3 s4 Xb
    cases hc with
    | false =>
      have HO:Hid (okR13 h level (x0,x1,x2,x3,x4) (y0,y1,y2,y3,y4)=false):=by
       show _=_
       unfold okR13
       simp only
       rw [HH.out]
       rfl
      have HF:Hid (r=false):=HN1.out HO.out
      go_wp2_with fail
      go_quiet (fail)
      go_wp2_with fail
      go_ret
      exact ⟨by rw [HF.out];rfl,below_drewN B1 _⟩
    | true =>
      by_cases d1:x2=y1
      ·by_cases d2:level=2
       ·by_cases d3:x0=3
        ·by_cases d4:y0=3
         ·skip
          have e1:(x2 != y1)=false:=by rw [d1];exact bne_self_eq_false _
          have e2:(level==2)=true:=by rw [d2];rfl
          have e3:(x0==3)=true:=by rw [d3];rfl
          have e4:(y0==3)=true:=by rw [d4];rfl
          have HO:Hid (okR13 h level (x0,x1,x2,x3,x4) (y0,y1,y2,y3,y4)=false):=by
           show _=_
           unfold okR13
           simp only
           rw [HH.out]
           rw [decide_eq_true d1,decide_eq_true d2,decide_eq_true d3,decide_eq_true d4];rfl
          have HF:Hid (r=false):=HN1.out HO.out
          clear d1 d2 d3 d4
          go_wp2_with fail
          go_quiet (fail)
          go_wp2_with fail
          go_ret
          exact ⟨by rw [HF.out];rfl,below_drewN B1 _⟩
         ·skip
          have e1:(x2 != y1)=false:=by rw [d1];exact bne_self_eq_false _
          have e2:(level==2)=true:=by rw [d2];rfl
          have e3:(x0==3)=true:=by rw [d3];rfl
          have e4:(y0==3)=false:=beq_eq_false_iff_ne.2 d4
          have HO:Hid (okR13 h level (x0,x1,x2,x3,x4) (y0,y1,y2,y3,y4)=true):=by
           show _=_
           unfold okR13
           simp only
           rw [HH.out]
           rw [decide_eq_true d1,decide_eq_true d2,decide_eq_true d3,decide_eq_false d4];rfl
          have HF:=Lib.hid (HB2.out HO.out)
          clear d1 d2 d3 d4
          go_wp2_with fail
          go_quiet (fail)
          go_wp2_with fail
          refine ⟨⟨q+1,by omega,by first | go_num | simp,HF,below_drewN B1 _⟩,by simp [intOf];omega⟩
        ·skip
         have e1:(x2 != y1)=false:=by rw [d1];exact bne_self_eq_false _
         have e2:(level==2)=true:=by rw [d2];rfl
         have e3:(x0==3)=false:=beq_eq_false_iff_ne.2 d3
         have HO:Hid (okR13 h level (x0,x1,x2,x3,x4) (y0,y1,y2,y3,y4)=true):=by
          show _=_
          unfold okR13
          simp only
          rw [HH.out]
          rw [decide_eq_true d1,decide_eq_true d2,decide_eq_false d3];rfl
         have HF:=Lib.hid (HB2.out HO.out)
         clear d1 d2 d3
         go_wp2_with fail
         go_quiet (fail)
         go_wp2_with fail
         refine ⟨⟨q+1,by omega,by first | go_num | simp,HF,below_drewN B1 _⟩,by simp [intOf];omega⟩
       ·skip
        have e1:(x2 != y1)=false:=by rw [d1];exact bne_self_eq_false _
        have e2:(level==2)=false:=beq_eq_false_iff_ne.2 d2
        have HO:Hid (okR13 h level (x0,x1,x2,x3,x4) (y0,y1,y2,y3,y4)=true):=by
         show _=_
         unfold okR13
         simp only
         rw [HH.out]
         rw [decide_eq_true d1,decide_eq_false d2];rfl
        have HF:=Lib.hid (HB2.out HO.out)
        clear d1 d2
        go_wp2_with fail
        go_quiet (fail)
        go_wp2_with fail
        refine ⟨⟨q+1,by omega,by first | go_num | simp,HF,below_drewN B1 _⟩,by simp [intOf];omega⟩
      ·skip
       have e1:(x2 != y1)=true:=bne_iff_ne.2 d1
       have HO:Hid (okR13 h level (x0,x1,x2,x3,x4) (y0,y1,y2,y3,y4)=false):=by
        show _=_
        unfold okR13
        simp only
        rw [HH.out]
        rw [decide_eq_false d1];rfl
       have HF:Hid (r=false):=HN1.out HO.out
       clear d1
       go_wp2_with fail
       go_quiet (fail)
       go_wp2_with fail
       go_ret
       exact ⟨by rw [HF.out];rfl,below_drewN B1 _⟩
   ·have en:nx13 l q=at13 l 0:=by unfold nx13;rw [if_neg (by have:=HM.out;omega)];rfl
    have jn:¬ (q:Int)+1 < (m:Int):=by omega
    obtain ⟨⟨x0,x1,x2,x3,x4⟩,hx⟩:∃ x,at13 l q=x:=⟨_,rfl⟩
    obtain ⟨⟨y0,y1,y2,y3,y4⟩,hy⟩:∃ x,at13 l 0=x:=⟨_,rfl⟩
    rw [en] at HN1 HB2
    rw [hx] at HX HN1 HB2
    rw [hy] at HZ HN1 HB2
    clear hx hy en h01
    obtain ⟨s0,s1,s2,s3,s4⟩:=HZ.out _ hbq
    simp only [Nat.zero_mul,Nat.add_zero] at s0 s1 s2 s3 s4
    have Bb:=hbq.alloc hbq.size (.cells #[.int .i64 y0,.int .i64 y1,.int .i64 y2,.int .i64 y3,.int .i64 y4] 71)
    have Xb:=SBox.new wr 71 #[.int .i64 y0,.int .i64 y1,.int .i64 y2,.int .i64 y3,.int .i64 y4]
    have D:=CH x0 x1 x2 x3 x4
    obtain ⟨hc,hhc⟩:∃ b,holdsC h (x0,x1,x2,x3,x4)=b:=⟨_,rfl⟩
    have HH:=Lib.hid hhc
    rw [hhc] at D
    clear hhc
    obtain ⟨u0,u1,u2,u3,u4⟩:=HX.out _ Bb
    go_wp2_with fail
    refine (D _ Bb).mono ?_
    rintro e w1 ⟨rfl,b1⟩
    have B1:=bel_trans Bb b1
    have X1:=Xb.below b1
    obtain ⟨t0,t1,t2,t3,t4⟩:=HX.out _ B1
    have n0:=X1.cell 0 _ rfl
    have n1:=X1.cell 1 _ rfl
    clear u0 u1 u2 u3 u4 s0 s1 s2 s3 s4 Xb
    cases hc with
    | false =>
      have HO:Hid (okR13 h level (x0,x1,x2,x3,x4) (y0,y1,y2,y3,y4)=false):=by
       show _=_
       unfold okR13
       simp only
       rw [HH.out]
       rfl
      have HF:Hid (r=false):=HN1.out HO.out
      go_wp2_with fail
      go_quiet (fail)
      go_wp2_with fail
      go_ret
      exact ⟨by rw [HF.out];rfl,below_drewN B1 _⟩
    | true =>
      by_cases d1:x2=y1
      ·by_cases d2:level=2
       ·by_cases d3:x0=3
        ·by_cases d4:y0=3
         ·skip
          have e1:(x2 != y1)=false:=by rw [d1];exact bne_self_eq_false _
          have e2:(level==2)=true:=by rw [d2];rfl
          have e3:(x0==3)=true:=by rw [d3];rfl
          have e4:(y0==3)=true:=by rw [d4];rfl
          have HO:Hid (okR13 h level (x0,x1,x2,x3,x4) (y0,y1,y2,y3,y4)=false):=by
           show _=_
           unfold okR13
           simp only
           rw [HH.out]
           rw [decide_eq_true d1,decide_eq_true d2,decide_eq_true d3,decide_eq_true d4];rfl
          have HF:Hid (r=false):=HN1.out HO.out
          clear d1 d2 d3 d4
          go_wp2_with fail
          go_quiet (fail)
          go_wp2_with fail
          go_ret
          exact ⟨by rw [HF.out];rfl,below_drewN B1 _⟩
         ·skip
          have e1:(x2 != y1)=false:=by rw [d1];exact bne_self_eq_false _
          have e2:(level==2)=true:=by rw [d2];rfl
          have e3:(x0==3)=true:=by rw [d3];rfl
          have e4:(y0==3)=false:=beq_eq_false_iff_ne.2 d4
          have HO:Hid (okR13 h level (x0,x1,x2,x3,x4) (y0,y1,y2,y3,y4)=true):=by
           show _=_
           unfold okR13
           simp only
           rw [HH.out]
           rw [decide_eq_true d1,decide_eq_true d2,decide_eq_true d3,decide_eq_false d4];rfl
          have HF:=Lib.hid (HB2.out HO.out)
          clear d1 d2 d3 d4
          go_wp2_with fail
          go_quiet (fail)
          go_wp2_with fail
          refine ⟨⟨q+1,by omega,by first | go_num | simp,HF,below_drewN B1 _⟩,by simp [intOf];omega⟩
        ·skip
         have e1:(x2 != y1)=false:=by rw [d1];exact bne_self_eq_false _
         have e2:(level==2)=true:=by rw [d2];rfl
         have e3:(x0==3)=false:=beq_eq_false_iff_ne.2 d3
         have HO:Hid (okR13 h level (x0,x1,x2,x3,x4) (y0,y1,y2,y3,y4)=true):=by
          show _=_
          unfold okR13
          simp only
          rw [HH.out]
          rw [decide_eq_true d1,decide_eq_true d2,decide_eq_false d3];rfl
         have HF:=Lib.hid (HB2.out HO.out)
         clear d1 d2 d3
         go_wp2_with fail
         go_quiet (fail)
         go_wp2_with fail
         refine ⟨⟨q+1,by omega,by first | go_num | simp,HF,below_drewN B1 _⟩,by simp [intOf];omega⟩
       ·skip
        have e1:(x2 != y1)=false:=by rw [d1];exact bne_self_eq_false _
        have e2:(level==2)=false:=beq_eq_false_iff_ne.2 d2
        have HO:Hid (okR13 h level (x0,x1,x2,x3,x4) (y0,y1,y2,y3,y4)=true):=by
         show _=_
         unfold okR13
         simp only
         rw [HH.out]
         rw [decide_eq_true d1,decide_eq_false d2];rfl
        have HF:=Lib.hid (HB2.out HO.out)
        clear d1 d2
        go_wp2_with fail
        go_quiet (fail)
        go_wp2_with fail
        refine ⟨⟨q+1,by omega,by first | go_num | simp,HF,below_drewN B1 _⟩,by simp [intOf];omega⟩
      ·skip
       have e1:(x2 != y1)=true:=bne_iff_ne.2 d1
       have HO:Hid (okR13 h level (x0,x1,x2,x3,x4) (y0,y1,y2,y3,y4)=false):=by
        show _=_
        unfold okR13
        simp only
        rw [HH.out]
        rw [decide_eq_false d1];rfl
       have HF:Hid (r=false):=HN1.out HO.out
       clear d1
       go_wp2_with fail
       go_quiet (fail)
       go_wp2_with fail
       go_ret
       exact ⟨by rw [HF.out];rfl,below_drewN B1 _⟩
  ·obtain rfl:q=m:=by omega
   have jq:¬ (q:Int) < (q:Int):=by omega
   have HF:Hid (r=decide (0 < q)):=by show _=_;rw [Y.out (fun i hi=>HB.out i (by rw [← HM.out];exact hi)),HM.out]
   by_cases d0:0 < q
   ·have z1:(0:Int) < (q:Int):=by omega
    rw [decide_eq_true d0] at HF
    go_wp2_with fail
    go_ret
    exact ⟨by rw [HF.out];rfl,hbq⟩
   ·have z1:¬ (0:Int) < (q:Int):=by omega
    rw [decide_eq_false d0] at HF
    go_wp2_with fail
    go_ret
    exact ⟨by rw [HF.out];rfl,hbq⟩
end Go.Proofs.YtdlcimfifkhllaaGreat
