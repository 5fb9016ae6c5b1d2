/-
  What check.Round answers.
-/
import Derived.Test.YtdlcimfifkhllaaGreatCR13Round
import Derived.Test.YtdlcimfifkhllaaGreatCL3a
namespace Go.Proofs.YtdlcimfifkhllaaGreat
set_option maxRecDepth 100000
open Go.RowKit Go.Maps
set_option linter.unusedVariables false
attribute [local go_sem] ba_size
attribute [local go_sem] farW_cell
set_option maxHeartbeats 8000000 in
theorem pround13_any (h:List Ev) (vh vl:Value) (level:Int) (l:List Ed) (w:World) (hT:IsEvs w vh h) (hL:IsEds w vl l) :
 Calls Tryz.prog 16 #[vh,.int .i64 level,vl] w fun e w'=>e=.returned (.bool (roundB h level l))∧Below w.heap.size w w':=by
 have CH:=fun (k f t I J:Int) W (hW:Below w.heap.size w W)=>pholds_any h vh W k f t I J (hT.below hW)
 have N:=Lib.hid (round_no h level l)
 have Y:=Lib.hid (round_yes h level l)
 obtain ⟨al,cl,rfl,p1,p2,p3,HC⟩:=IsEds.reads hL
 obtain ⟨ah,ch,rfl,_⟩:=hT.some_at
 obtain ⟨r,hr⟩:∃ r,roundB h level l=r:=⟨_,rfl⟩
 rw [hr] at N Y ⊢
 obtain ⟨nh,hnh⟩:∃ m,h.length=m:=⟨_,rfl⟩
 rw [hnh] at CH ⊢
 obtain ⟨m,hm⟩:∃ m,l.length=m:=⟨_,rfl⟩
 have HM:=Lib.hid hm
 rw [hm] at p1 p3 ⊢
 clear hT hL hr hnh hm
 go_enter Tryz.func16,Tryz.ntmps16
 go_wp2_with fail
 go_loopw [11] (fun i wq=>∃ q:Nat,q≤m∧i=.int .i64 q∧Hid (∀ j,j < q→okR13 h level (at13 l j) (nx13 l j)=true)∧Below w.heap.size w wq) (fun i _=>m - (intOf i).toNat)
 case atStart=>exact ⟨0,Nat.zero_le _,rfl,(fun j hj=>by omega),Below.refl _ _⟩
 case round =>
  obtain ⟨q,hq,rfl,HB,hbq⟩:=hrel
  by_cases hlq:q < m
  ·have hq1:q < l.length:=by have:=HM.out;omega
   have h01:0 < l.length:=by omega
   have jq:(q:Int) < (m:Int):=by omega
   have jw:IntKind.i64.wrap ((q:Int)+1)=(q:Int)+1:=by rw [IntKind.wrap_i64];omega
   have HN1:=Lib.hid (N.out q hq1)
   have HB2:Hid (okR13 h level (at13 l q) (nx13 l q)=true→∀ j,j < q+1→okR13 h level (at13 l j) (nx13 l j)=true):=fun hh j hj=>by
    rcases Nat.lt_or_ge j q with hj2 | hj2
    ·exact HB.out j hj2
    ·obtain rfl:j=q:=by omega
     exact hh
   obtain ⟨s,hs,hsm,hnx⟩:∃ s:Nat,((q:Int)+1).tmod (m:Int)=(s:Int)∧s < m∧nx13 l q=at13 l s:=by
    by_cases dn:q+1 < m
    ·refine ⟨q+1,?_,dn,by unfold nx13;rw [if_pos (by have:=HM.out;omega)];rfl⟩
     rw [Int.tmod_eq_of_lt (by omega) (by omega)];omega
    ·refine ⟨0,?_,by omega,by unfold nx13;rw [if_neg (by have:=HM.out;omega)];rfl⟩
     have e:(q:Int)+1=(m:Int):=by omega
     rw [e,Int.tmod_self];rfl
   have hs1:s < l.length:=by have:=HM.out;omega
   obtain ⟨bb,off,rfl,HQ⟩:=HC.out h01
   have HX:=Lib.hid (HQ.out q hq1)
   have HZ:=Lib.hid (HQ.out s hs1)
   rw [← at13_get hq1] at HX
   rw [← at13_get hs1] at HZ
   rw [hnx] at HN1 HB2
   obtain ⟨⟨x0,x1,x2,x3,x4⟩,hx⟩:∃ x,at13 l q=x:=⟨_,rfl⟩
   obtain ⟨⟨y0,y1,y2,y3,y4⟩,hy⟩:∃ x,at13 l s=x:=⟨_,rfl⟩
   rw [hx] at HX HN1 HB2
   rw [hy] at HZ HN1 HB2
   clear hx hy h01 hnx hs1 hq1
   obtain ⟨s0,s1,s2,s3,s4⟩:=HZ.out _ hbq
   have Bb:=hbq.alloc hbq.size (.cells #[.int .i64 y0,.int .i64 y1,.int .i64 y2,.int .i64 y3,.int .i64 y4] 71)
   have Xb:=SBox.new wr 71 #[.int .i64 y0,.int .i64 y1,.int .i64 y2,.int .i64 y3,.int .i64 y4]
   have D:=CH x0 x1 x2 x3 x4
   obtain ⟨hc,hhc⟩:∃ b,holdsC h (x0,x1,x2,x3,x4)=b:=⟨_,rfl⟩
   have HH:=Lib.hid hhc
   rw [hhc] at D
   clear hhc
   have ks:(s:Int) < (m:Int):=by omega
   have km:¬ (m:Int)=0:=by omega
   go_upto_region 5 with fail
   obtain ⟨WA,hWA⟩:∃ W,wr.alloc (.cells #[.int .i64 y0,.int .i64 y1,.int .i64 y2,.int .i64 y3,.int .i64 y4] 71)=W:=⟨_,rfl⟩
   rw [hWA] at Bb Xb ⊢
   clear hWA s0 s1 s2 s3 s4
   obtain ⟨u0,u1,u2,u3,u4⟩:=HX.out _ Bb
   have m0:=Xb.cell 0 _ rfl
   have m1:=Xb.cell 1 _ rfl
   cases hc with
   | false =>
     have HO:Hid (okR13 h level (x0,x1,x2,x3,x4) (y0,y1,y2,y3,y4)=false):=by
      show _=_
      unfold okR13
      simp only
      rw [HH.out]
      rfl
     have HF:Hid (r=false):=HN1.out HO.out
     go_wp2_with fail
     refine region_far (by kernel_rfl) (by kernel_rfl) ?_
     repeat (first | go_big_quiet_skip | (go_big_quiet_want;go_big_quiet_op;first | go_big_quiet_on | go_big_quiet_call (first | (go_at_call 38;exact calls_far (D _ (bel_trans Bb (farW_bel _ _)))))))
     refine wpQuiet_nil ?_
     rintro w' ⟨U,rfl⟩
     have B1:=bel_trans Bb (farW_bel WA U)
     generalize farW WA U=wB at B1 ⊢
     go_wp2_with fail
     go_ret
     exact ⟨by rw [HF.out];rfl,B1⟩
   | true =>
     by_cases d1:x2=y1
     ·skip
      by_cases d2:level=2
      ·skip
       by_cases d3:x0=3
       ·skip
        by_cases d4:y0=3
        ·skip
         have e1:(x2 != y1)=false:=by rw [d1];exact bne_self_eq_false _
         have e2:(level==2)=true:=by rw [d2];rfl
         have e3:(x0==3)=true:=by rw [d3];rfl
         have e4:(y0==3)=true:=by rw [d4];rfl
         have HO:Hid (okR13 h level (x0,x1,x2,x3,x4) (y0,y1,y2,y3,y4)=false):=by
          show _=_
          unfold okR13
          simp only
          rw [HH.out,decide_eq_true d1,decide_eq_true d2,decide_eq_true d3,decide_eq_true d4]
          rfl
         have HF:Hid (r=false):=HN1.out HO.out
         clear d1 d2 d3 d4
         go_wp2_with fail
         refine region_far (by kernel_rfl) (by kernel_rfl) ?_
         repeat (first | go_big_quiet_skip | (go_big_quiet_want;go_big_quiet_op;first | go_big_quiet_on | go_big_quiet_call (first | (go_at_call 38;exact calls_far (D _ (bel_trans Bb (farW_bel _ _)))))))
         refine wpQuiet_nil ?_
         rintro w' ⟨U,rfl⟩
         have B1:=bel_trans Bb (farW_bel WA U)
         have X1:=Xb.below (farW_bel WA U)
         generalize farW WA U=wB at B1 X1 ⊢
         clear u0 u1 u2 u3 u4 m0 m1
         obtain ⟨u0,u1,u2,u3,u4⟩:=HX.out _ B1
         have m0:=X1.cell 0 _ rfl
         have m1:=X1.cell 1 _ rfl
         go_wp2_with fail
         go_ret
         exact ⟨by rw [HF.out];rfl,B1⟩
        ·skip
         have e1:(x2 != y1)=false:=by rw [d1];exact bne_self_eq_false _
         have e2:(level==2)=true:=by rw [d2];rfl
         have e3:(x0==3)=true:=by rw [d3];rfl
         have e4:(y0==3)=false:=beq_eq_false_iff_ne.2 d4
         have HO:Hid (okR13 h level (x0,x1,x2,x3,x4) (y0,y1,y2,y3,y4)=true):=by
          show _=_
          unfold okR13
          simp only
          rw [HH.out,decide_eq_true d1,decide_eq_true d2,decide_eq_true d3,decide_eq_false d4]
          rfl
         have HF:=Lib.hid (HB2.out HO.out)
         clear d1 d2 d3 d4
         go_wp2_with fail
         refine region_far (by kernel_rfl) (by kernel_rfl) ?_
         repeat (first | go_big_quiet_skip | (go_big_quiet_want;go_big_quiet_op;first | go_big_quiet_on | go_big_quiet_call (first | (go_at_call 38;exact calls_far (D _ (bel_trans Bb (farW_bel _ _)))))))
         refine wpQuiet_nil ?_
         rintro w' ⟨U,rfl⟩
         have B1:=bel_trans Bb (farW_bel WA U)
         have X1:=Xb.below (farW_bel WA U)
         generalize farW WA U=wB at B1 X1 ⊢
         clear u0 u1 u2 u3 u4 m0 m1
         obtain ⟨u0,u1,u2,u3,u4⟩:=HX.out _ B1
         have m0:=X1.cell 0 _ rfl
         have m1:=X1.cell 1 _ rfl
         go_wp2_with fail
         refine ⟨⟨q+1,by omega,by first | go_num | simp,HF,B1⟩,by simp [intOf];omega⟩
       ·skip
        have e1:(x2 != y1)=false:=by rw [d1];exact bne_self_eq_false _
        have e2:(level==2)=true:=by rw [d2];rfl
        have e3:(x0==3)=false:=beq_eq_false_iff_ne.2 d3
        have HO:Hid (okR13 h level (x0,x1,x2,x3,x4) (y0,y1,y2,y3,y4)=true):=by
         show _=_
         unfold okR13
         simp only
         rw [HH.out,decide_eq_true d1,decide_eq_true d2,decide_eq_false d3]
         rfl
        have HF:=Lib.hid (HB2.out HO.out)
        clear d1 d2 d3
        go_wp2_with fail
        refine region_far (by kernel_rfl) (by kernel_rfl) ?_
        repeat (first | go_big_quiet_skip | (go_big_quiet_want;go_big_quiet_op;first | go_big_quiet_on | go_big_quiet_call (first | (go_at_call 38;exact calls_far (D _ (bel_trans Bb (farW_bel _ _)))))))
        refine wpQuiet_nil ?_
        rintro w' ⟨U,rfl⟩
        have B1:=bel_trans Bb (farW_bel WA U)
        have X1:=Xb.below (farW_bel WA U)
        generalize farW WA U=wB at B1 X1 ⊢
        clear u0 u1 u2 u3 u4 m0 m1
        obtain ⟨u0,u1,u2,u3,u4⟩:=HX.out _ B1
        have m0:=X1.cell 0 _ rfl
        have m1:=X1.cell 1 _ rfl
        go_wp2_with fail
        refine ⟨⟨q+1,by omega,by first | go_num | simp,HF,B1⟩,by simp [intOf];omega⟩
      ·skip
       have e1:(x2 != y1)=false:=by rw [d1];exact bne_self_eq_false _
       have e2:(level==2)=false:=beq_eq_false_iff_ne.2 d2
       have HO:Hid (okR13 h level (x0,x1,x2,x3,x4) (y0,y1,y2,y3,y4)=true):=by
        show _=_
        unfold okR13
        simp only
        rw [HH.out,decide_eq_true d1,decide_eq_false d2]
        rfl
       have HF:=Lib.hid (HB2.out HO.out)
       clear d1 d2
       go_wp2_with fail
       refine region_far (by kernel_rfl) (by kernel_rfl) ?_
       repeat (first | go_big_quiet_skip | (go_big_quiet_want;go_big_quiet_op;first | go_big_quiet_on | go_big_quiet_call (first | (go_at_call 38;exact calls_far (D _ (bel_trans Bb (farW_bel _ _)))))))
       refine wpQuiet_nil ?_
       rintro w' ⟨U,rfl⟩
       have B1:=bel_trans Bb (farW_bel WA U)
       have X1:=Xb.below (farW_bel WA U)
       generalize farW WA U=wB at B1 X1 ⊢
       clear u0 u1 u2 u3 u4 m0 m1
       obtain ⟨u0,u1,u2,u3,u4⟩:=HX.out _ B1
       have m0:=X1.cell 0 _ rfl
       have m1:=X1.cell 1 _ rfl
       go_wp2_with fail
       refine ⟨⟨q+1,by omega,by first | go_num | simp,HF,B1⟩,by simp [intOf];omega⟩
     ·skip
      have e1:(x2 != y1)=true:=bne_iff_ne.2 d1
      have HO:Hid (okR13 h level (x0,x1,x2,x3,x4) (y0,y1,y2,y3,y4)=false):=by
       show _=_
       unfold okR13
       simp only
       rw [HH.out,decide_eq_false d1]
       rfl
      have HF:Hid (r=false):=HN1.out HO.out
      clear d1
      go_wp2_with fail
      refine region_far (by kernel_rfl) (by kernel_rfl) ?_
      repeat (first | go_big_quiet_skip | (go_big_quiet_want;go_big_quiet_op;first | go_big_quiet_on | go_big_quiet_call (first | (go_at_call 38;exact calls_far (D _ (bel_trans Bb (farW_bel _ _)))))))
      refine wpQuiet_nil ?_
      rintro w' ⟨U,rfl⟩
      have B1:=bel_trans Bb (farW_bel WA U)
      have X1:=Xb.below (farW_bel WA U)
      generalize farW WA U=wB at B1 X1 ⊢
      clear u0 u1 u2 u3 u4 m0 m1
      obtain ⟨u0,u1,u2,u3,u4⟩:=HX.out _ B1
      have m0:=X1.cell 0 _ rfl
      have m1:=X1.cell 1 _ rfl
      go_wp2_with fail
      go_ret
      exact ⟨by rw [HF.out];rfl,B1⟩
  ·obtain rfl:q=m:=by omega
   have jq:¬ (q:Int) < (q:Int):=by omega
   have HF:Hid (r=decide (0 < q)):=by show _=_;rw [Y.out (fun i hi=>HB.out i (by rw [← HM.out];exact hi)),HM.out]
   by_cases d0:0 < q
   ·have z1:(0:Int) < (q:Int):=by omega
    rw [decide_eq_true d0] at HF
    go_wp2_with fail
    go_ret
    exact ⟨by rw [HF.out];rfl,hbq⟩
   ·have z1:¬ (0:Int) < (q:Int):=by omega
    rw [decide_eq_false d0] at HF
    go_wp2_with fail
    go_ret
    exact ⟨by rw [HF.out];rfl,hbq⟩
end Go.Proofs.YtdlcimfifkhllaaGreat
