/-
  What cartoucheref14.Same answers.
-/
import Derived.Test.YtkkenfhlgpjmjaaGreatDoorSCertApartL0a
import Derived.Deep.CutRange
namespace Go.Proofs.YtkkenfhlgpjmjaaGreatDoor
set_option maxRecDepth 100000
open Go.RowKit
set_option linter.unusedVariables false
attribute [local go_sem] ba_size farW_cell
def decPf (a b:Pf):Decidable (a=b):=inferInstance
def samePs (x y:List Pf):Bool:=@decide (x=y) (@instDecidableEqList Pf decPf x y)
theorem samePs_iff (x y:List Pf):samePs x y=true↔x=y:=@decide_eq_true_iff (x=y) (@instDecidableEqList Pf decPf x y)
def sameC (x y:Ct):Bool:=sameV x.2.2.2.2.2.1 y.2.2.2.2.2.1&&decide (x.1=y.1)&&decide (x.2.1=y.2.1)&&decide (x.2.2.1=y.2.2.1)&&decide (x.2.2.2.1=y.2.2.2.1)&&decide (x.2.2.2.2.1=y.2.2.2.2.1)&&samePs x.2.2.2.2.2.2 y.2.2.2.2.2.2
theorem sameC_iff (x y:Ct):sameC x y=true↔x=y:=by
 obtain ⟨xa,xsq,xp,xd,xct,xv,xq⟩:=x
 obtain ⟨ya,ysq,yp,yd,yct,yv,yq⟩:=y
 unfold sameC
 simp only [Bool.and_eq_true,decide_eq_true_eq,sameV_iff,samePs_iff,Prod.mk.injEq]
 constructor
 ·rintro ⟨⟨⟨⟨⟨⟨h1,h2⟩,h3⟩,h4⟩,h5⟩,h6⟩,h7⟩;exact ⟨h2,h3,h4,h5,h6,h1,h7⟩
 ·rintro ⟨h2,h3,h4,h5,h6,h1,h7⟩;exact ⟨⟨⟨⟨⟨⟨h1,h2⟩,h3⟩,h4⟩,h5⟩,h6⟩,h7⟩
theorem run_evne (w:World) (x y:Ev) (h:x≠y):Sem.run Tryz.prog (binOp .neq 64 (.agg #[.int .i64 x.1,.int .i64 x.2.1,.string ⟨x.2.2.1.toArray⟩,.string ⟨x.2.2.2.toArray⟩]) (.agg #[.int .i64 y.1,.int .i64 y.2.1,.string ⟨y.2.2.1.toArray⟩,.string ⟨y.2.2.2.toArray⟩])) w=.ok (.bool true) w:=by
 obtain ⟨x0,x1,x2,x3⟩:=x
 obtain ⟨y0,y1,y2,y3⟩:=y
 have:(decide (x0=y0)&&decide (x1=y1)&&decide (x2=y2)&&decide (x3=y3))=false:=by
  rw [← Bool.not_eq_true]
  simp only [Bool.and_eq_true,decide_eq_true_eq]
  rintro ⟨⟨⟨rfl,rfl⟩,rfl⟩,rfl⟩
  exact h rfl
 rw [run_neq_struct]
 by_cases h0:x0=y0<;>by_cases h1:x1=y1<;>by_cases h2:x2=y2<;>by_cases h3:x3=y3<;>simp [go_sem,h0,h1,h2,h3] at this ⊢
set_option maxHeartbeats 8000000 in
theorem rsame14_any (c c':Ct) (vo vr vp vo' vr' vp':Value) (w:World) (hC:CtAt w c vo vr vp) (hC':CtAt w c' vo' vr' vp') :
 Calls Tryz.prog 14 #[.agg (ctC c vo vr vp),.agg (ctC c' vo' vr' vp')] w fun e w'=>e=.returned (.bool (sameC c c'))∧Below w.heap.size w w':=by
 obtain ⟨xa,xsq,xp,xd,xct,⟨xlv,xac,xo,⟨xk0,xk1,xk2⟩,xg⟩,xq⟩:=c
 obtain ⟨ya,ysq,yp,yd,yct,⟨ylv,yac,yo,⟨yk0,yk1,yk2⟩,yg⟩,yq⟩:=c'
 obtain ⟨hO,hR,hP⟩:=hC
 obtain ⟨hO',hR',hP'⟩:=hC'
 simp only at hO hR hP hO' hR' hP' ⊢
 have CV:=fun W (hW:Below w.heap.size w W)=>rsamev_any (xlv,xac,xo,(xk0,xk1,xk2),xg) (ylv,yac,yo,(yk0,yk1,yk2),yg) vo vr vo' vr' W (hO.below hW) (hR.below hW) (hO'.below hW) (hR'.below hW)
 obtain ⟨xoa,xoc,rfl,_⟩:=IsInts.reads hO
 obtain ⟨xra,xrc,rfl,_⟩:=IsEds.reads hR
 obtain ⟨xpa,xpc,rfl,p1,p2,p3,HP⟩:=IsPfs.reads hP
 obtain ⟨yoa,yoc,rfl,_⟩:=IsInts.reads hO'
 obtain ⟨yra,yrc,rfl,_⟩:=IsEds.reads hR'
 obtain ⟨ypa,ypc,rfl,q1,q2,q3,HQ⟩:=IsPfs.reads hP'
 clear hO hR hP hO' hR' hP'
 have HD:Hid (sameC (xa,xsq,xp,xd,xct,(xlv,xac,xo,(xk0,xk1,xk2),xg),xq) (ya,ysq,yp,yd,yct,(ylv,yac,yo,(yk0,yk1,yk2),yg),yq)=(sameV (xlv,xac,xo,(xk0,xk1,xk2),xg) (ylv,yac,yo,(yk0,yk1,yk2),yg)&&decide (xa=ya)&&decide (xsq=ysq)&&decide (xp=yp)&&decide (xd=yd)&&decide (xct=yct)&&samePs xq yq)):=rfl
 generalize sameV (xlv,xac,xo,(xk0,xk1,xk2),xg) (ylv,yac,yo,(yk0,yk1,yk2),yg)=sv at CV HD
 obtain ⟨xno,hxno⟩:∃ x,xo.length=x:=⟨_,rfl⟩
 obtain ⟨xng,hxng⟩:∃ x,xg.length=x:=⟨_,rfl⟩
 obtain ⟨xnq,hxnq⟩:∃ x,xq.length=x:=⟨_,rfl⟩
 obtain ⟨yno,hyno⟩:∃ x,yo.length=x:=⟨_,rfl⟩
 obtain ⟨yng,hyng⟩:∃ x,yg.length=x:=⟨_,rfl⟩
 obtain ⟨ynq,hynq⟩:∃ x,yq.length=x:=⟨_,rfl⟩
 simp only [vdC] at CV
 rw [hxno,hxng,hyno,hyng] at CV
 simp only [ctC,hxno,hxng,hxnq,hyno,hyng,hynq]
 rw [HD.out]
 obtain ⟨rr,hrr⟩:∃ rr,(sv&&decide (xa=ya)&&decide (xsq=ysq)&&decide (xp=yp)&&decide (xd=yd)&&decide (xct=yct)&&samePs xq yq)=rr:=⟨_,rfl⟩
 rw [hrr]
 have HRR:=Lib.hid hrr
 have HX:=Lib.hid hxnq
 have HY:=Lib.hid hynq
 rw [hxnq] at p1 p3
 rw [hynq] at q1 q3
 clear hxno hxng hxnq hyno hyng hynq HD hrr
 obtain ⟨bb,hbb⟩:∃ bb,(!(sv&&decide (xa=ya)&&decide (xsq=ysq)&&decide (xp=yp)&&decide (xd=yd)&&decide (xct=yct)&&decide (xnq=ynq)))=bb:=⟨_,rfl⟩
 have HB:=Lib.hid hbb
 clear hbb
 have X0:=(SBox.new w 35 #[.string ⟨xa.toArray⟩,.int .i64 xsq,.string ⟨xp.toArray⟩,.string ⟨xd.toArray⟩,.int .i64 xct,.int .i64 xlv,.bool xac,.slice xoa xno xoc,.int .i64 xk0,.int .i64 xk1,.int .i64 xk2,.slice xra xng xrc,.slice xpa xnq xpc]).alloc (.cells #[.string ⟨ya.toArray⟩,.int .i64 ysq,.string ⟨yp.toArray⟩,.string ⟨yd.toArray⟩,.int .i64 yct,.int .i64 ylv,.bool yac,.slice yoa yno yoc,.int .i64 yk0,.int .i64 yk1,.int .i64 yk2,.slice yra yng yrc,.slice ypa ynq ypc] 35)
 have Y0:=SBox.new (w.alloc (.cells #[.string ⟨xa.toArray⟩,.int .i64 xsq,.string ⟨xp.toArray⟩,.string ⟨xd.toArray⟩,.int .i64 xct,.int .i64 xlv,.bool xac,.slice xoa xno xoc,.int .i64 xk0,.int .i64 xk1,.int .i64 xk2,.slice xra xng xrc,.slice xpa xnq xpc] 35)) 35 #[.string ⟨ya.toArray⟩,.int .i64 ysq,.string ⟨yp.toArray⟩,.string ⟨yd.toArray⟩,.int .i64 yct,.int .i64 ylv,.bool yac,.slice yoa yno yoc,.int .i64 yk0,.int .i64 yk1,.int .i64 yk2,.slice yra yng yrc,.slice ypa ynq ypc]
 rw [World.size_alloc] at Y0
 have B0:Below w.heap.size w ((w.alloc (.cells #[.string ⟨xa.toArray⟩,.int .i64 xsq,.string ⟨xp.toArray⟩,.string ⟨xd.toArray⟩,.int .i64 xct,.int .i64 xlv,.bool xac,.slice xoa xno xoc,.int .i64 xk0,.int .i64 xk1,.int .i64 xk2,.slice xra xng xrc,.slice xpa xnq xpc] 35)).alloc (.cells #[.string ⟨ya.toArray⟩,.int .i64 ysq,.string ⟨yp.toArray⟩,.string ⟨yd.toArray⟩,.int .i64 yct,.int .i64 ylv,.bool yac,.slice yoa yno yoc,.int .i64 yk0,.int .i64 yk1,.int .i64 yk2,.slice yra yng yrc,.slice ypa ynq ypc] 35)):=((Below.refl _ w).alloc (Nat.le_refl _) _).alloc (by simp) _
 have f5:=X0.cell 5 _ rfl
 have g5:=Y0.cell 5 _ rfl
 have f6:=X0.cell 6 _ rfl
 have g6:=Y0.cell 6 _ rfl
 have f7:=X0.cell 7 _ rfl
 have g7:=Y0.cell 7 _ rfl
 have f8:=X0.cell 8 _ rfl
 have g8:=Y0.cell 8 _ rfl
 have f9:=X0.cell 9 _ rfl
 have g9:=Y0.cell 9 _ rfl
 have f10:=X0.cell 10 _ rfl
 have g10:=Y0.cell 10 _ rfl
 have f11:=X0.cell 11 _ rfl
 have g11:=Y0.cell 11 _ rfl
 go_enter Tryz.func14,Tryz.ntmps14
 go_wp2_with fail
 refine (CV _ B0).mono ?_
 rintro e w1 ⟨rfl,b1⟩
 have B1:=bel_trans B0 b1
 have X1:=X0.below b1
 have Y1:=Y0.below b1
 clear f5 g5 f6 g6 f7 g7 f8 g8 f9 g9 f10 g10 f11 g11
 have f0:=X1.cell 0 _ rfl
 have g0:=Y1.cell 0 _ rfl
 have f1:=X1.cell 1 _ rfl
 have g1:=Y1.cell 1 _ rfl
 have f2:=X1.cell 2 _ rfl
 have g2:=Y1.cell 2 _ rfl
 have f3:=X1.cell 3 _ rfl
 have g3:=Y1.cell 3 _ rfl
 have f4:=X1.cell 4 _ rfl
 have g4:=Y1.cell 4 _ rfl
 have f12:=X1.cell 12 _ rfl
 have g12:=Y1.cell 12 _ rfl
 go_upto_region 2 with fail
 go_cut [58] from 13 to 58 (fun s W=>s=.bool bb∧W=w1)
 case first =>
  cases sv with
  | false =>
    go_wp2_with fail
    go_meet
    exact ⟨by rw [← HB.out];simp,rfl⟩
  | true =>
    by_cases h0:xa=ya
    ·subst h0
     by_cases h1:xsq=ysq
     ·subst h1
      by_cases h2:xp=yp
      ·subst h2
       by_cases h3:xd=yd
       ·subst h3
        by_cases h4:xct=yct
        ·subst h4
         by_cases h5:xnq=ynq
         ·subst h5
          go_wp2_with fail
          go_meet
          exact ⟨by rw [← HB.out];simp,rfl⟩
         ·have n5:((xnq:Int) != (ynq:Int))=true:=bne_iff_ne.2 (by omega)
          go_wp2_with fail
          go_meet
          exact ⟨by rw [← HB.out];simp [h5],rfl⟩
        ·have n4:(xct != yct)=true:=bne_iff_ne.2 h4
         go_wp2_with fail
         go_meet
         exact ⟨by rw [← HB.out];simp [h4],rfl⟩
       ·have n3:(xd==yd)=false:=beq_eq_false_iff_ne.2 h3
        go_wp2_with fail
        go_meet
        exact ⟨by rw [← HB.out];simp [h3],rfl⟩
      ·have n2:(xp==yp)=false:=beq_eq_false_iff_ne.2 h2
       go_wp2_with fail
       go_meet
       exact ⟨by rw [← HB.out];simp [h2],rfl⟩
     ·have n1:(xsq != ysq)=true:=bne_iff_ne.2 h1
      go_wp2_with fail
      go_meet
      exact ⟨by rw [← HB.out];simp [h1],rfl⟩
    ·have n0:(xa==ya)=false:=beq_eq_false_iff_ne.2 h0
     go_wp2_with fail
     go_meet
     exact ⟨by rw [← HB.out];simp [h0],rfl⟩
 case rest =>
 obtain ⟨rfl,hwc⟩:=hcut
 obtain rfl:w1=wc:=hwc.symm
 cases bb with
 | true =>
   have HF:Hid (rr=false):=by
    show _=_
    rw [← HRR.out]
    have h:=HB.out
    have hl:samePs xq yq=true→decide (xnq=ynq)=true:=fun e=>by
     rw [samePs_iff] at e
     exact decide_eq_true (by rw [← HX.out,← HY.out,e])
    revert h hl
    generalize (sv&&decide (xa=ya)&&decide (xsq=ysq)&&decide (xp=yp)&&decide (xd=yd)&&decide (xct=yct))=P
    generalize samePs xq yq=Q
    generalize decide (xnq=ynq)=R
    revert P Q R
    decide
   go_wp2_with fail
   go_ret
   exact ⟨by rw [HF.out];rfl,B1⟩
 | false =>
   have HF2:Hid (rr=samePs xq yq∧decide (xnq=ynq)=true):=by
    show _∧_
    rw [← HRR.out]
    have h:=HB.out
    revert h
    generalize (sv&&decide (xa=ya)&&decide (xsq=ysq)&&decide (xp=yp)&&decide (xd=yd)&&decide (xct=yct))=P
    generalize samePs xq yq=Q
    generalize decide (xnq=ynq)=R
    revert P Q R
    decide
   obtain rfl:xnq=ynq:=of_decide_eq_true HF2.out.2
   have HF3:=Lib.hid HF2.out.1
   clear HB HF2 f0 f1 f2 f3 f4 g0 g1 g2 g3 g4
   go_wp2_with fail
   go_loopw [6] (fun i wr=>∃ k:Nat,k≤xnq∧i=.int .i64 k∧Hid (xq.take k=yq.take k)∧Below w1.heap.size w1 wr) (fun i _=>xnq - (RowKit.intOf i).toNat)
   case atStart=>exact ⟨0,Nat.zero_le _,rfl,rfl,Below.refl _ _⟩
   case round =>
    obtain ⟨k,hk,rfl,HT,hbw⟩:=hrel
    obtain ⟨wA,rfl⟩:∃ wA,wA=wr:=⟨_,rfl⟩
    clear f12 g12
    have X2:=X1.below hbw
    have Y2:=Y1.below hbw
    have B2:=bel_trans B1 hbw
    have f12:=X2.cell 12 _ rfl
    have g12:=Y2.cell 12 _ rfl
    by_cases hlt:k < xnq
    ·have j0:(k:Int) < (xnq:Int):=by omega
     have hk1:k < xq.length:=by have:=HX.out;omega
     have hk2:k < yq.length:=by have:=HY.out;omega
     obtain ⟨xb,xf,rfl,u,hu,HP2⟩:=HP.out k hk1
     obtain ⟨yb,yf,rfl,v,hv,HQ2⟩:=HQ.out k hk2
     have CS:Hid (∀ V,Below w.heap.size w V→Calls Tryz.prog 38 #[u,v] V fun e w'=>e=.returned (.bool (decide (xq[k].2.2=yq[k].2.2)))∧Below V.heap.size V w'):=fun V hV=>same_txt u v _ _ V (hu.below hV) (hv.below hV)
     obtain ⟨ua,un,uc,rfl,_⟩:=hu
     obtain ⟨va,vn,vc,rfl,_⟩:=hv
     have HZ:Hid (∀ x y,xq[k]=x→yq[k]=y→x=y→xq.take (k+1)=yq.take (k+1)):=fun x y e1 e2 e3=>take_next_eq hk1 hk2 HT.out (by rw [e1,e2,e3])
     have HN:Hid (∀ x y,xq[k]=x→yq[k]=y→x≠y→samePs xq yq=false):=fun x y e1 e2 e3=>by
      rw [← Bool.not_eq_true,samePs_iff]
      exact ne_by_at hk1 hk2 (by rw [e1,e2];exact e3)
     obtain ⟨⟨x0,⟨x1,x2,x3,x4⟩,x5⟩,hx⟩:∃ x,xq[k]=x:=⟨_,rfl⟩
     obtain ⟨⟨y0,⟨y1,y2,y3,y4⟩,y5⟩,hy⟩:∃ x,yq[k]=x:=⟨_,rfl⟩
     replace HZ:=HZ.out _ _ hx hy
     replace HN:=HN.out _ _ hx hy
     rw [hx] at HP2
     rw [hy] at HQ2
     rw [hx,hy] at CS
     simp only at HP2 HQ2 CS
     clear hx hy
     obtain ⟨_,_,_,_,_,c5⟩:=HP2 _ B2
     obtain ⟨_,_,_,_,_,d5⟩:=HQ2 _ B2
     have HP3:=Lib.hid HP2
     have HQ3:=Lib.hid HQ2
     have HZ2:=Lib.hid HZ
     have HN2:=Lib.hid HN
     clear HP2 HQ2 HZ HN
     go_wp2_with fail
     refine region_far (by kernel_rfl) (by kernel_rfl) ?_
     repeat (first | go_big_quiet_skip | (go_big_quiet_want;go_big_quiet_op;first | go_big_quiet_on | go_big_quiet_call (first | (go_at_call 38;exact calls_far (CS.out _ (bel_trans B2 (farW_bel _ _)))))))
     refine wpQuiet_nil ?_
     rintro w' ⟨U,rfl⟩
     have BW:=bel_trans hbw (farW_bel wA U)
     have X3:=X2.below (farW_bel wA U)
     have Y3:=Y2.below (farW_bel wA U)
     generalize farW wA U=wB at BW X3 Y3 ⊢
     clear f12 g12 c5 d5
     have f12:=X3.cell 12 _ rfl
     have g12:=Y3.cell 12 _ rfl
     obtain ⟨c0,c1,c2,c3,c4,_⟩:=HP3.out _ (bel_trans B1 BW)
     obtain ⟨d0,d1,d2,d3,d4,_⟩:=HQ3.out _ (bel_trans B1 BW)
     by_cases h5:x5=y5
     ·rw [decide_eq_true h5]
      by_cases h0:x0=y0
      ·subst h0
       by_cases h1:(x1,x2,x3,x4)=((y1,y2,y3,y4):Ev)
       ·have HT2:=Lib.hid (HZ2.out (by rw [h1,h5]))
        cases h1
        go_wp2_with fail
        go_quiet (fail)
        go_wp2_with fail
        refine ⟨⟨k+1,by omega,by first | go_num | simp,HT2,below_drewN BW _⟩,by simp [RowKit.intOf];omega⟩
       ·have HF:=Lib.hid (HN2.out (fun e=>h1 (by cases e;rfl)))
        have ene:∀ V:World,Sem.run Tryz.prog (binOp .neq 64 (.agg #[.int .i64 x1,.int .i64 x2,.string ⟨x3.toArray⟩,.string ⟨x4.toArray⟩]) (.agg #[.int .i64 y1,.int .i64 y2,.string ⟨y3.toArray⟩,.string ⟨y4.toArray⟩])) V=.ok (.bool true) V:=fun V=>run_evne V (x1,x2,x3,x4) (y1,y2,y3,y4) h1
        go_wp2_with fail
        go_quiet (fail)
        go_wp2_with fail
        go_ret
        exact ⟨by rw [HF3.out,HF.out];rfl,below_drewN (bel_trans B1 BW) _⟩
      ·have n0:(x0 != y0)=true:=bne_iff_ne.2 h0
       have HF:=Lib.hid (HN2.out (fun e=>h0 (by cases e;rfl)))
       go_wp2_with fail
       go_quiet (fail)
       go_wp2_with fail
       go_ret
       exact ⟨by rw [HF3.out,HF.out];rfl,below_drewN (bel_trans B1 BW) _⟩
     ·rw [decide_eq_false h5]
      have HF:=Lib.hid (HN2.out (fun e=>h5 (by cases e;rfl)))
      go_wp2_with fail
      go_quiet (fail)
      go_wp2_with fail
      go_ret
      exact ⟨by rw [HF3.out,HF.out];rfl,below_drewN (bel_trans B1 BW) _⟩
    ·obtain rfl:k=xnq:=by omega
     have j0:¬ (k:Int) < (k:Int):=by omega
     have HF:Hid (samePs xq yq=true):=by
      show _=_
      rw [samePs_iff]
      have h:=HT.out
      rwa [List.take_of_length_le (by have:=HX.out;omega),List.take_of_length_le (by have:=HY.out;omega)] at h
     go_wp2_with fail
     go_ret
     exact ⟨by rw [HF3.out,HF.out];rfl,B2⟩
end Go.Proofs.YtkkenfhlgpjmjaaGreatDoor
