/-
  What cartoucheref13.Check answers.
-/
import Derived.Test.YtdlcimfifkhllaaGreatSCheckTellsL3a
import Derived.Test.YtdlcimfifkhllaaGreatCR13Round
import Derived.Test.YtdlcimfifkhllaaGreatSCheckTellsR12Judge
namespace Go.Proofs.YtdlcimfifkhllaaGreat
set_option maxRecDepth 100000
open Go.RowKit
set_option linter.unusedVariables false
attribute [local go_sem] ba_size
theorem checkV_arg (h:List Ev) (v:Vd) (h1:v.1≠1) (h2:v.1≠2):checkV h v=1:=by unfold checkV;rw [if_pos ⟨h1,h2⟩]
theorem checkV_form (h:List Ev) (v:Vd) (hl:v.1=1∨v.1=2) (hf:(formedL h).2≠0):checkV h v=((formedL h).2:Int):=by unfold checkV;rw [if_neg (by omega),if_pos hf]
theorem checkV_yes (h:List Ev) (v:Vd) (hl:v.1=1∨v.1=2) (hf:(formedL h).2=0) (ha:v.2.1=true):checkV h v=if v.2.2.2.1.1≠0∨0 < v.2.2.2.2.length∨0 < (badsL h).length∨aheadB h v.1 v.2.2.1=false then 14 else 0:=by unfold checkV;rw [if_neg (by omega),if_neg (fun e=>e hf),if_pos ha]
theorem checkV_no (h:List Ev) (v:Vd) (hl:v.1=1∨v.1=2) (hf:(formedL h).2=0) (ha:v.2.1=false):checkV h v=if 0 < v.2.2.1.length then 14 else if v.2.2.2.1.1≠0 then (if 0 < v.2.2.2.2.length∨atZ h v.2.2.2.1.2.1≠v.2.2.2.1 then 14 else 0) else if roundB h v.1 v.2.2.2.2=false then 14 else 0:=by unfold checkV;rw [if_neg (by omega),if_neg (fun e=>e hf),if_neg (by rw [ha];decide)]
theorem own_shape13b {W:World} {B e k n:Nat} {v:Value} {xs:List Value} (h:W.ownsRow B e k v n xs):∃ ad c,v=.slice ad n c:=by
 rcases h.2 with ⟨rfl,rfl⟩ | ⟨g,cap,cur,rfl,_⟩
 ·exact ⟨none,0,rfl⟩
 ·exact ⟨_,_,rfl⟩
set_option maxHeartbeats 8000000 in
theorem rcheck13_any (h:List Ev) (vh vo vr:Value) (v:Vd) (w:World) (hT:IsEvs w vh h) (hO:IsInts w vo v.2.2.1) (hR:IsEds w vr v.2.2.2.2) :
 Calls Tryz.prog 13 #[vh,.agg (vdC v vo vr)] w fun e w'=>e=.returned (.int .i64 (checkV h v))∧Below w.heap.size w w':=by
 have CF:=Lib.hid (fun W (hW:Below w.heap.size w W)=>rformed_any h vh W (hT.below hW))
 have HY:=Lib.hid (checkV_yes h v)
 have HN:=Lib.hid (checkV_no h v)
 have HA:=Lib.hid (checkV_arg h v)
 have HFm:=Lib.hid (checkV_form h v)
 obtain ⟨lv,ac,o,⟨p,q,r⟩,g⟩:=v
 simp only at hO hR HY HN HA HFm ⊢
 have CB:=Lib.hid (fun (hf:(formedL h).2=0) W (hW:Below w.heap.size w W)=>rbads_any h vh W (hT.below hW) (by have:=((formed_ok h).1 hf).1;omega))
 have CA:=Lib.hid (fun (hf:(formedL h).2=0) W (hW:Below w.heap.size w W)=>rahead_any h vh vo lv o W (hT.below hW) (hO.below hW) (by have:=((formed_ok h).1 hf).1;omega) (wf_keys ((formed_ok h).1 hf)))
 have CR:=Lib.hid (fun W (hW:Below w.heap.size w W)=>rround_any h vh vr lv g W (hT.below hW) (hR.below hW))
 have CT:=Lib.hid (fun W (hW:Below w.heap.size w W)=>rat_any h vh W (hT.below hW) q)
 have LB:(formedL h).2=0→(badsL h).length≤300:=fun hf=>Nat.le_trans (by unfold badsL;exact List.length_filterMap_le _ _) (by rw [List.length_range];have:=((formed_ok h).1 hf).1;omega)
 have ea:atI h q=atZ h q:=rfl
 rw [ea] at CT
 clear ea
 obtain ⟨oa,oc,rfl,i1,i2,i3,_⟩:=hO.some_at
 obtain ⟨ra,rc,rfl,k1,k2,k3,_⟩:=hR.some_at
 obtain ⟨ah,ch,rfl,_⟩:=hT.some_at
 obtain ⟨X,hX⟩:∃ x,checkV h (lv,ac,o,(p,q,r),g)=x:=⟨_,rfl⟩
 obtain ⟨f1,hf1⟩:∃ x,(formedL h).1=x:=⟨_,rfl⟩
 obtain ⟨f2,hf2⟩:∃ x,(formedL h).2=x:=⟨_,rfl⟩
 obtain ⟨ab,hab⟩:∃ x,aheadB h lv o=x:=⟨_,rfl⟩
 obtain ⟨rb,hrb⟩:∃ x,roundB h lv g=x:=⟨_,rfl⟩
 obtain ⟨⟨t0,t1,t2⟩,ht⟩:∃ x,atZ h q=x:=⟨_,rfl⟩
 obtain ⟨BL,hBL⟩:∃ x,badsL h=x:=⟨_,rfl⟩
 obtain ⟨nh,hnh⟩:∃ x,h.length=x:=⟨_,rfl⟩
 obtain ⟨no,hno⟩:∃ x,o.length=x:=⟨_,rfl⟩
 obtain ⟨ng,hng⟩:∃ x,g.length=x:=⟨_,rfl⟩
 simp only [hX,hf1,hf2,hab,hrb,ht,hBL,hnh,hno,hng] at CF HY HN HA HFm CB CA CR CT LB ⊢
 rw [hno] at i1 i3
 rw [hng] at k1 k3
 clear hX hf1 hf2 hab hrb ht hBL hnh hno hng hT hO hR
 by_cases hl:lv=1∨lv=2
 ·by_cases hf:f2=0
  ·have CB':=Lib.hid (CB.out hf)
   have CA':=Lib.hid (CA.out hf)
   have lb:=LB hf
   have HY':=Lib.hid (HY.out hl hf)
   have HN':=Lib.hid (HN.out hl hf)
   subst hf
   clear CB CA LB HY HN HA HFm
   cases ac with
   | true =>
     have HY:=Lib.hid (HY'.out rfl)
     clear HY' HN'
     rcases hl with rfl | rfl
     ·skip
      have X0:=SBox.new w 28 #[.int .i64 1,.bool true,.slice oa no oc,.int .i64 p,.int .i64 q,.int .i64 r,.slice ra ng rc]
      have B0:=(Below.refl w.heap.size w).alloc (Nat.le_refl _) (.cells #[.int .i64 1,.bool true,.slice oa no oc,.int .i64 p,.int .i64 q,.int .i64 r,.slice ra ng rc] 28)
      have c0:=X0.cell 0 _ rfl
      go_enter Tryz.func13,Tryz.ntmps13
      go_wp2_with fail
      refine (CF.out _ B0).mono ?_
      rintro e w1 ⟨rfl,b1⟩
      have B1:=bel_trans B0 b1
      have X1:=X0.below b1
      clear X0 c0
      have c1:=X1.cell 1 _ rfl
      go_wp2_with fail
      refine (CB'.out _ B1).mono ?_
      rintro e w2 ⟨vb,rfl,b2,ob⟩
      have B2:=bel_trans B1 b2
      have X2:=X1.below b2
      have d0:=X2.cell 0 _ rfl
      have d2:=X2.cell 2 _ rfl
      obtain ⟨ba,bc,rfl⟩:=own_shape13b ob
      obtain ⟨nb,hnb⟩:∃ x,BL.length=x:=⟨_,rfl⟩
      rw [hnb] at HY lb ⊢
      clear X1 c1 ob hnb
      go_wp2_with fail
      refine (CA'.out _ B2).mono ?_
      rintro e w3 ⟨rfl,b3⟩
      have B3:=bel_trans B2 b3
      have X3:=X2.below b3
      have e0:=X3.cell 3 _ rfl
      have e1:=X3.cell 6 _ rfl
      clear X2 d0 d2
      by_cases z1:p=0
      ·have j1:(p != 0)=false:=by rw [z1];rfl
       by_cases z2:0 < ng
       ·have HF:Hid (X=14):=by show _=_;rw [HY.out,if_pos (.inr (.inl z2))]
        have j2:(0:Int) < (ng:Int):=by omega
        clear HY z1
        go_wp2_with fail
        go_ret
        exact ⟨by rw [HF.out];rfl,B3⟩
       ·have j2:¬ (0:Int) < (ng:Int):=by omega
        by_cases z3:0 < nb
        ·have HF:Hid (X=14):=by show _=_;rw [HY.out,if_pos (.inr (.inr (.inl z3)))]
         have j3:(0:Int) < (nb:Int):=by omega
         clear HY z1
         go_wp2_with fail
         go_ret
         exact ⟨by rw [HF.out];rfl,B3⟩
        ·have j3:¬ (0:Int) < (nb:Int):=by omega
         cases ab with
         | false =>
           have HF:Hid (X=14):=by show _=_;rw [HY.out,if_pos (.inr (.inr (.inr rfl)))]
           clear HY z1
           go_wp2_with fail
           go_ret
           exact ⟨by rw [HF.out];rfl,B3⟩
         | true =>
           have HF:Hid (X=0):=by
            show _=_
            rw [HY.out,if_neg]
            rintro (hh | hh | hh | hh)
            ·exact hh z1
            ·exact z2 hh
            ·exact z3 hh
            ·cases hh
           clear HY z1
           go_wp2_with fail
           go_ret
           exact ⟨by rw [HF.out];rfl,B3⟩
      ·have HF:Hid (X=14):=by show _=_;rw [HY.out,if_pos (.inl z1)]
       have j1:(p != 0)=true:=bne_iff_ne.2 z1
       clear HY z1
       go_wp2_with fail
       go_ret
       exact ⟨by rw [HF.out];rfl,B3⟩
     ·skip
      have X0:=SBox.new w 28 #[.int .i64 2,.bool true,.slice oa no oc,.int .i64 p,.int .i64 q,.int .i64 r,.slice ra ng rc]
      have B0:=(Below.refl w.heap.size w).alloc (Nat.le_refl _) (.cells #[.int .i64 2,.bool true,.slice oa no oc,.int .i64 p,.int .i64 q,.int .i64 r,.slice ra ng rc] 28)
      have c0:=X0.cell 0 _ rfl
      go_enter Tryz.func13,Tryz.ntmps13
      go_wp2_with fail
      refine (CF.out _ B0).mono ?_
      rintro e w1 ⟨rfl,b1⟩
      have B1:=bel_trans B0 b1
      have X1:=X0.below b1
      clear X0 c0
      have c1:=X1.cell 1 _ rfl
      go_wp2_with fail
      refine (CB'.out _ B1).mono ?_
      rintro e w2 ⟨vb,rfl,b2,ob⟩
      have B2:=bel_trans B1 b2
      have X2:=X1.below b2
      have d0:=X2.cell 0 _ rfl
      have d2:=X2.cell 2 _ rfl
      obtain ⟨ba,bc,rfl⟩:=own_shape13b ob
      obtain ⟨nb,hnb⟩:∃ x,BL.length=x:=⟨_,rfl⟩
      rw [hnb] at HY lb ⊢
      clear X1 c1 ob hnb
      go_wp2_with fail
      refine (CA'.out _ B2).mono ?_
      rintro e w3 ⟨rfl,b3⟩
      have B3:=bel_trans B2 b3
      have X3:=X2.below b3
      have e0:=X3.cell 3 _ rfl
      have e1:=X3.cell 6 _ rfl
      clear X2 d0 d2
      by_cases z1:p=0
      ·have j1:(p != 0)=false:=by rw [z1];rfl
       by_cases z2:0 < ng
       ·have HF:Hid (X=14):=by show _=_;rw [HY.out,if_pos (.inr (.inl z2))]
        have j2:(0:Int) < (ng:Int):=by omega
        clear HY z1
        go_wp2_with fail
        go_ret
        exact ⟨by rw [HF.out];rfl,B3⟩
       ·have j2:¬ (0:Int) < (ng:Int):=by omega
        by_cases z3:0 < nb
        ·have HF:Hid (X=14):=by show _=_;rw [HY.out,if_pos (.inr (.inr (.inl z3)))]
         have j3:(0:Int) < (nb:Int):=by omega
         clear HY z1
         go_wp2_with fail
         go_ret
         exact ⟨by rw [HF.out];rfl,B3⟩
        ·have j3:¬ (0:Int) < (nb:Int):=by omega
         cases ab with
         | false =>
           have HF:Hid (X=14):=by show _=_;rw [HY.out,if_pos (.inr (.inr (.inr rfl)))]
           clear HY z1
           go_wp2_with fail
           go_ret
           exact ⟨by rw [HF.out];rfl,B3⟩
         | true =>
           have HF:Hid (X=0):=by
            show _=_
            rw [HY.out,if_neg]
            rintro (hh | hh | hh | hh)
            ·exact hh z1
            ·exact z2 hh
            ·exact z3 hh
            ·cases hh
           clear HY z1
           go_wp2_with fail
           go_ret
           exact ⟨by rw [HF.out];rfl,B3⟩
      ·have HF:Hid (X=14):=by show _=_;rw [HY.out,if_pos (.inl z1)]
       have j1:(p != 0)=true:=bne_iff_ne.2 z1
       clear HY z1
       go_wp2_with fail
       go_ret
       exact ⟨by rw [HF.out];rfl,B3⟩
   | false =>
     have HN:=Lib.hid (HN'.out rfl)
     clear HY' HN'
     rcases hl with rfl | rfl
     ·skip
      have X0:=SBox.new w 28 #[.int .i64 1,.bool false,.slice oa no oc,.int .i64 p,.int .i64 q,.int .i64 r,.slice ra ng rc]
      have B0:=(Below.refl w.heap.size w).alloc (Nat.le_refl _) (.cells #[.int .i64 1,.bool false,.slice oa no oc,.int .i64 p,.int .i64 q,.int .i64 r,.slice ra ng rc] 28)
      have c0:=X0.cell 0 _ rfl
      go_enter Tryz.func13,Tryz.ntmps13
      go_wp2_with fail
      refine (CF.out _ B0).mono ?_
      rintro e w1 ⟨rfl,b1⟩
      have B1:=bel_trans B0 b1
      have X1:=X0.below b1
      clear X0 c0
      have c1:=X1.cell 1 _ rfl
      have d0:=X1.cell 0 _ rfl
      have d2:=X1.cell 2 _ rfl
      have d3:=X1.cell 3 _ rfl
      have d4:=X1.cell 4 _ rfl
      have d5:=X1.cell 5 _ rfl
      have d6:=X1.cell 6 _ rfl
      by_cases z1:0 < no
      ·have HF:Hid (X=14):=by show _=_;rw [HN.out,if_pos z1]
       have j1:(0:Int) < (no:Int):=by omega
       clear HN
       go_wp2_with fail
       go_ret
       exact ⟨by rw [HF.out];rfl,B1⟩
      ·have j1:¬ (0:Int) < (no:Int):=by omega
       rw [if_neg z1] at HN
       by_cases z2:p=0
       ·have j2:(p != 0)=false:=by rw [z2];rfl
        rw [if_neg (fun e=>e z2)] at HN
        clear z2
        go_wp2_with fail
        refine (CR.out _ B1).mono ?_
        rintro e w2 ⟨rfl,b2⟩
        have B2:=bel_trans B1 b2
        cases rb with
        | true =>
          have HF:Hid (X=0):=by show _=_;rw [HN.out];rfl
          clear HN
          go_wp2_with fail
          go_ret
          exact ⟨by rw [HF.out];rfl,B2⟩
        | false =>
          have HF:Hid (X=14):=by show _=_;rw [HN.out];rfl
          clear HN
          go_wp2_with fail
          go_ret
          exact ⟨by rw [HF.out];rfl,B2⟩
       ·have j2:(p != 0)=true:=bne_iff_ne.2 z2
        rw [if_pos z2] at HN
        clear z2
        by_cases z3:0 < ng
        ·have HF:Hid (X=14):=by show _=_;rw [HN.out,if_pos (.inl z3)]
         have j3:(0:Int) < (ng:Int):=by omega
         clear HN
         go_wp2_with fail
         go_quiet (fail)
         go_wp2_with fail
         go_ret
         exact ⟨by rw [HF.out];rfl,below_drewN B1 _⟩
        ·have j3:¬ (0:Int) < (ng:Int):=by omega
         by_cases z4:((t0,t1,t2):Int × Int × Int)=(p,q,r)
         ·have HF:Hid (X=0):=by
           show _=_
           rw [HN.out,if_neg]
           rintro (hh | hh)
           ·exact z3 hh
           ·exact hh z4
          clear HN
          simp only [Prod.mk.injEq] at z4
          obtain ⟨rfl,rfl,rfl⟩:=z4
          have S0:(fun V=>Below w1.heap.size w1 V∧V.cell? ⟨w.heap.size,6,none⟩=some (.slice ra ng rc)∧V.cell? ⟨w.heap.size,3,none⟩=some (.int .i64 t0)∧V.cell? ⟨w.heap.size,4,none⟩=some (.int .i64 t1)∧V.cell? ⟨w.heap.size,5,none⟩=some (.int .i64 t2)) w1.drew:=⟨(Below.refl _ _).drew,d6,d3,d4,d5⟩
          have keepS:∀ V V':World,(fun V=>Below w1.heap.size w1 V∧V.cell? ⟨w.heap.size,6,none⟩=some (.slice ra ng rc)∧V.cell? ⟨w.heap.size,3,none⟩=some (.int .i64 t0)∧V.cell? ⟨w.heap.size,4,none⟩=some (.int .i64 t1)∧V.cell? ⟨w.heap.size,5,none⟩=some (.int .i64 t2)) V→Below V.heap.size V V'→(fun V=>Below w1.heap.size w1 V∧V.cell? ⟨w.heap.size,6,none⟩=some (.slice ra ng rc)∧V.cell? ⟨w.heap.size,3,none⟩=some (.int .i64 t0)∧V.cell? ⟨w.heap.size,4,none⟩=some (.int .i64 t1)∧V.cell? ⟨w.heap.size,5,none⟩=some (.int .i64 t2)) V':=fun V V' ⟨a,b,c,d,e⟩ k=>⟨bel_trans a k,cell_bel k b,cell_bel k c,cell_bel k d,cell_bel k e⟩
          go_wp2_with fail
          go_region_held3 (fun V=>Below w1.heap.size w1 V∧V.cell? ⟨w.heap.size,6,none⟩=some (.slice ra ng rc)∧V.cell? ⟨w.heap.size,3,none⟩=some (.int .i64 t0)∧V.cell? ⟨w.heap.size,4,none⟩=some (.int .i64 t1)∧V.cell? ⟨w.heap.size,5,none⟩=some (.int .i64 t2)) (first | exact S0 | exact keepS _ _ (by assumption) (by assumption)) (first | (go_at_call 26;refine (CT.out _ (bel_trans B1 (And.left (by assumption)))).mono ?_;rintro e' w' ⟨rfl,b8⟩))
          rename_i hHeld8
          have s8:=hHeld8.1
          clear S0 keepS hHeld8
          go_wp2_with fail
          go_ret
          exact ⟨by rw [HF.out];rfl,bel_trans B1 s8⟩
         ·have HF:Hid (X=14):=by show _=_;rw [HN.out,if_pos (.inr z4)]
          clear HN
          by_cases u0:t0=p
          ·subst u0
           by_cases u1:t1=q
           ·subst u1
            have u2:¬ t2=r:=fun h2=>z4 (by rw [h2])
            clear z4
            have S0:(fun V=>Below w1.heap.size w1 V∧V.cell? ⟨w.heap.size,6,none⟩=some (.slice ra ng rc)∧V.cell? ⟨w.heap.size,3,none⟩=some (.int .i64 t0)∧V.cell? ⟨w.heap.size,4,none⟩=some (.int .i64 t1)∧V.cell? ⟨w.heap.size,5,none⟩=some (.int .i64 r)) w1.drew:=⟨(Below.refl _ _).drew,d6,d3,d4,d5⟩
            have keepS:∀ V V':World,(fun V=>Below w1.heap.size w1 V∧V.cell? ⟨w.heap.size,6,none⟩=some (.slice ra ng rc)∧V.cell? ⟨w.heap.size,3,none⟩=some (.int .i64 t0)∧V.cell? ⟨w.heap.size,4,none⟩=some (.int .i64 t1)∧V.cell? ⟨w.heap.size,5,none⟩=some (.int .i64 r)) V→Below V.heap.size V V'→(fun V=>Below w1.heap.size w1 V∧V.cell? ⟨w.heap.size,6,none⟩=some (.slice ra ng rc)∧V.cell? ⟨w.heap.size,3,none⟩=some (.int .i64 t0)∧V.cell? ⟨w.heap.size,4,none⟩=some (.int .i64 t1)∧V.cell? ⟨w.heap.size,5,none⟩=some (.int .i64 r)) V':=fun V V' ⟨a,b,c,d,e⟩ k=>⟨bel_trans a k,cell_bel k b,cell_bel k c,cell_bel k d,cell_bel k e⟩
            go_wp2_with fail
            go_region_held3 (fun V=>Below w1.heap.size w1 V∧V.cell? ⟨w.heap.size,6,none⟩=some (.slice ra ng rc)∧V.cell? ⟨w.heap.size,3,none⟩=some (.int .i64 t0)∧V.cell? ⟨w.heap.size,4,none⟩=some (.int .i64 t1)∧V.cell? ⟨w.heap.size,5,none⟩=some (.int .i64 r)) (first | exact S0 | exact keepS _ _ (by assumption) (by assumption)) (first | (go_at_call 26;refine (CT.out _ (bel_trans B1 (And.left (by assumption)))).mono ?_;rintro e' w' ⟨rfl,b8⟩))
            rename_i hHeld8
            have s8:=hHeld8.1
            clear S0 keepS hHeld8
            go_wp2_with fail
            go_ret
            exact ⟨by rw [HF.out];rfl,bel_trans B1 s8⟩
           ·clear z4
            have S0:(fun V=>Below w1.heap.size w1 V∧V.cell? ⟨w.heap.size,6,none⟩=some (.slice ra ng rc)∧V.cell? ⟨w.heap.size,3,none⟩=some (.int .i64 t0)∧V.cell? ⟨w.heap.size,4,none⟩=some (.int .i64 q)∧V.cell? ⟨w.heap.size,5,none⟩=some (.int .i64 r)) w1.drew:=⟨(Below.refl _ _).drew,d6,d3,d4,d5⟩
            have keepS:∀ V V':World,(fun V=>Below w1.heap.size w1 V∧V.cell? ⟨w.heap.size,6,none⟩=some (.slice ra ng rc)∧V.cell? ⟨w.heap.size,3,none⟩=some (.int .i64 t0)∧V.cell? ⟨w.heap.size,4,none⟩=some (.int .i64 q)∧V.cell? ⟨w.heap.size,5,none⟩=some (.int .i64 r)) V→Below V.heap.size V V'→(fun V=>Below w1.heap.size w1 V∧V.cell? ⟨w.heap.size,6,none⟩=some (.slice ra ng rc)∧V.cell? ⟨w.heap.size,3,none⟩=some (.int .i64 t0)∧V.cell? ⟨w.heap.size,4,none⟩=some (.int .i64 q)∧V.cell? ⟨w.heap.size,5,none⟩=some (.int .i64 r)) V':=fun V V' ⟨a,b,c,d,e⟩ k=>⟨bel_trans a k,cell_bel k b,cell_bel k c,cell_bel k d,cell_bel k e⟩
            go_wp2_with fail
            go_region_held3 (fun V=>Below w1.heap.size w1 V∧V.cell? ⟨w.heap.size,6,none⟩=some (.slice ra ng rc)∧V.cell? ⟨w.heap.size,3,none⟩=some (.int .i64 t0)∧V.cell? ⟨w.heap.size,4,none⟩=some (.int .i64 q)∧V.cell? ⟨w.heap.size,5,none⟩=some (.int .i64 r)) (first | exact S0 | exact keepS _ _ (by assumption) (by assumption)) (first | (go_at_call 26;refine (CT.out _ (bel_trans B1 (And.left (by assumption)))).mono ?_;rintro e' w' ⟨rfl,b8⟩))
            rename_i hHeld8
            have s8:=hHeld8.1
            clear S0 keepS hHeld8
            go_wp2_with fail
            go_ret
            exact ⟨by rw [HF.out];rfl,bel_trans B1 s8⟩
          ·clear z4
           have S0:(fun V=>Below w1.heap.size w1 V∧V.cell? ⟨w.heap.size,6,none⟩=some (.slice ra ng rc)∧V.cell? ⟨w.heap.size,3,none⟩=some (.int .i64 p)∧V.cell? ⟨w.heap.size,4,none⟩=some (.int .i64 q)∧V.cell? ⟨w.heap.size,5,none⟩=some (.int .i64 r)) w1.drew:=⟨(Below.refl _ _).drew,d6,d3,d4,d5⟩
           have keepS:∀ V V':World,(fun V=>Below w1.heap.size w1 V∧V.cell? ⟨w.heap.size,6,none⟩=some (.slice ra ng rc)∧V.cell? ⟨w.heap.size,3,none⟩=some (.int .i64 p)∧V.cell? ⟨w.heap.size,4,none⟩=some (.int .i64 q)∧V.cell? ⟨w.heap.size,5,none⟩=some (.int .i64 r)) V→Below V.heap.size V V'→(fun V=>Below w1.heap.size w1 V∧V.cell? ⟨w.heap.size,6,none⟩=some (.slice ra ng rc)∧V.cell? ⟨w.heap.size,3,none⟩=some (.int .i64 p)∧V.cell? ⟨w.heap.size,4,none⟩=some (.int .i64 q)∧V.cell? ⟨w.heap.size,5,none⟩=some (.int .i64 r)) V':=fun V V' ⟨a,b,c,d,e⟩ k=>⟨bel_trans a k,cell_bel k b,cell_bel k c,cell_bel k d,cell_bel k e⟩
           go_wp2_with fail
           go_region_held3 (fun V=>Below w1.heap.size w1 V∧V.cell? ⟨w.heap.size,6,none⟩=some (.slice ra ng rc)∧V.cell? ⟨w.heap.size,3,none⟩=some (.int .i64 p)∧V.cell? ⟨w.heap.size,4,none⟩=some (.int .i64 q)∧V.cell? ⟨w.heap.size,5,none⟩=some (.int .i64 r)) (first | exact S0 | exact keepS _ _ (by assumption) (by assumption)) (first | (go_at_call 26;refine (CT.out _ (bel_trans B1 (And.left (by assumption)))).mono ?_;rintro e' w' ⟨rfl,b8⟩))
           rename_i hHeld8
           have s8:=hHeld8.1
           clear S0 keepS hHeld8
           go_wp2_with fail
           go_ret
           exact ⟨by rw [HF.out];rfl,bel_trans B1 s8⟩
     ·skip
      have X0:=SBox.new w 28 #[.int .i64 2,.bool false,.slice oa no oc,.int .i64 p,.int .i64 q,.int .i64 r,.slice ra ng rc]
      have B0:=(Below.refl w.heap.size w).alloc (Nat.le_refl _) (.cells #[.int .i64 2,.bool false,.slice oa no oc,.int .i64 p,.int .i64 q,.int .i64 r,.slice ra ng rc] 28)
      have c0:=X0.cell 0 _ rfl
      go_enter Tryz.func13,Tryz.ntmps13
      go_wp2_with fail
      refine (CF.out _ B0).mono ?_
      rintro e w1 ⟨rfl,b1⟩
      have B1:=bel_trans B0 b1
      have X1:=X0.below b1
      clear X0 c0
      have c1:=X1.cell 1 _ rfl
      have d0:=X1.cell 0 _ rfl
      have d2:=X1.cell 2 _ rfl
      have d3:=X1.cell 3 _ rfl
      have d4:=X1.cell 4 _ rfl
      have d5:=X1.cell 5 _ rfl
      have d6:=X1.cell 6 _ rfl
      by_cases z1:0 < no
      ·have HF:Hid (X=14):=by show _=_;rw [HN.out,if_pos z1]
       have j1:(0:Int) < (no:Int):=by omega
       clear HN
       go_wp2_with fail
       go_ret
       exact ⟨by rw [HF.out];rfl,B1⟩
      ·have j1:¬ (0:Int) < (no:Int):=by omega
       rw [if_neg z1] at HN
       by_cases z2:p=0
       ·have j2:(p != 0)=false:=by rw [z2];rfl
        rw [if_neg (fun e=>e z2)] at HN
        clear z2
        go_wp2_with fail
        refine (CR.out _ B1).mono ?_
        rintro e w2 ⟨rfl,b2⟩
        have B2:=bel_trans B1 b2
        cases rb with
        | true =>
          have HF:Hid (X=0):=by show _=_;rw [HN.out];rfl
          clear HN
          go_wp2_with fail
          go_ret
          exact ⟨by rw [HF.out];rfl,B2⟩
        | false =>
          have HF:Hid (X=14):=by show _=_;rw [HN.out];rfl
          clear HN
          go_wp2_with fail
          go_ret
          exact ⟨by rw [HF.out];rfl,B2⟩
       ·have j2:(p != 0)=true:=bne_iff_ne.2 z2
        rw [if_pos z2] at HN
        clear z2
        by_cases z3:0 < ng
        ·have HF:Hid (X=14):=by show _=_;rw [HN.out,if_pos (.inl z3)]
         have j3:(0:Int) < (ng:Int):=by omega
         clear HN
         go_wp2_with fail
         go_quiet (fail)
         go_wp2_with fail
         go_ret
         exact ⟨by rw [HF.out];rfl,below_drewN B1 _⟩
        ·have j3:¬ (0:Int) < (ng:Int):=by omega
         by_cases z4:((t0,t1,t2):Int × Int × Int)=(p,q,r)
         ·have HF:Hid (X=0):=by
           show _=_
           rw [HN.out,if_neg]
           rintro (hh | hh)
           ·exact z3 hh
           ·exact hh z4
          clear HN
          simp only [Prod.mk.injEq] at z4
          obtain ⟨rfl,rfl,rfl⟩:=z4
          have S0:(fun V=>Below w1.heap.size w1 V∧V.cell? ⟨w.heap.size,6,none⟩=some (.slice ra ng rc)∧V.cell? ⟨w.heap.size,3,none⟩=some (.int .i64 t0)∧V.cell? ⟨w.heap.size,4,none⟩=some (.int .i64 t1)∧V.cell? ⟨w.heap.size,5,none⟩=some (.int .i64 t2)) w1.drew:=⟨(Below.refl _ _).drew,d6,d3,d4,d5⟩
          have keepS:∀ V V':World,(fun V=>Below w1.heap.size w1 V∧V.cell? ⟨w.heap.size,6,none⟩=some (.slice ra ng rc)∧V.cell? ⟨w.heap.size,3,none⟩=some (.int .i64 t0)∧V.cell? ⟨w.heap.size,4,none⟩=some (.int .i64 t1)∧V.cell? ⟨w.heap.size,5,none⟩=some (.int .i64 t2)) V→Below V.heap.size V V'→(fun V=>Below w1.heap.size w1 V∧V.cell? ⟨w.heap.size,6,none⟩=some (.slice ra ng rc)∧V.cell? ⟨w.heap.size,3,none⟩=some (.int .i64 t0)∧V.cell? ⟨w.heap.size,4,none⟩=some (.int .i64 t1)∧V.cell? ⟨w.heap.size,5,none⟩=some (.int .i64 t2)) V':=fun V V' ⟨a,b,c,d,e⟩ k=>⟨bel_trans a k,cell_bel k b,cell_bel k c,cell_bel k d,cell_bel k e⟩
          go_wp2_with fail
          go_region_held3 (fun V=>Below w1.heap.size w1 V∧V.cell? ⟨w.heap.size,6,none⟩=some (.slice ra ng rc)∧V.cell? ⟨w.heap.size,3,none⟩=some (.int .i64 t0)∧V.cell? ⟨w.heap.size,4,none⟩=some (.int .i64 t1)∧V.cell? ⟨w.heap.size,5,none⟩=some (.int .i64 t2)) (first | exact S0 | exact keepS _ _ (by assumption) (by assumption)) (first | (go_at_call 26;refine (CT.out _ (bel_trans B1 (And.left (by assumption)))).mono ?_;rintro e' w' ⟨rfl,b8⟩))
          rename_i hHeld8
          have s8:=hHeld8.1
          clear S0 keepS hHeld8
          go_wp2_with fail
          go_ret
          exact ⟨by rw [HF.out];rfl,bel_trans B1 s8⟩
         ·have HF:Hid (X=14):=by show _=_;rw [HN.out,if_pos (.inr z4)]
          clear HN
          by_cases u0:t0=p
          ·subst u0
           by_cases u1:t1=q
           ·subst u1
            have u2:¬ t2=r:=fun h2=>z4 (by rw [h2])
            clear z4
            have S0:(fun V=>Below w1.heap.size w1 V∧V.cell? ⟨w.heap.size,6,none⟩=some (.slice ra ng rc)∧V.cell? ⟨w.heap.size,3,none⟩=some (.int .i64 t0)∧V.cell? ⟨w.heap.size,4,none⟩=some (.int .i64 t1)∧V.cell? ⟨w.heap.size,5,none⟩=some (.int .i64 r)) w1.drew:=⟨(Below.refl _ _).drew,d6,d3,d4,d5⟩
            have keepS:∀ V V':World,(fun V=>Below w1.heap.size w1 V∧V.cell? ⟨w.heap.size,6,none⟩=some (.slice ra ng rc)∧V.cell? ⟨w.heap.size,3,none⟩=some (.int .i64 t0)∧V.cell? ⟨w.heap.size,4,none⟩=some (.int .i64 t1)∧V.cell? ⟨w.heap.size,5,none⟩=some (.int .i64 r)) V→Below V.heap.size V V'→(fun V=>Below w1.heap.size w1 V∧V.cell? ⟨w.heap.size,6,none⟩=some (.slice ra ng rc)∧V.cell? ⟨w.heap.size,3,none⟩=some (.int .i64 t0)∧V.cell? ⟨w.heap.size,4,none⟩=some (.int .i64 t1)∧V.cell? ⟨w.heap.size,5,none⟩=some (.int .i64 r)) V':=fun V V' ⟨a,b,c,d,e⟩ k=>⟨bel_trans a k,cell_bel k b,cell_bel k c,cell_bel k d,cell_bel k e⟩
            go_wp2_with fail
            go_region_held3 (fun V=>Below w1.heap.size w1 V∧V.cell? ⟨w.heap.size,6,none⟩=some (.slice ra ng rc)∧V.cell? ⟨w.heap.size,3,none⟩=some (.int .i64 t0)∧V.cell? ⟨w.heap.size,4,none⟩=some (.int .i64 t1)∧V.cell? ⟨w.heap.size,5,none⟩=some (.int .i64 r)) (first | exact S0 | exact keepS _ _ (by assumption) (by assumption)) (first | (go_at_call 26;refine (CT.out _ (bel_trans B1 (And.left (by assumption)))).mono ?_;rintro e' w' ⟨rfl,b8⟩))
            rename_i hHeld8
            have s8:=hHeld8.1
            clear S0 keepS hHeld8
            go_wp2_with fail
            go_ret
            exact ⟨by rw [HF.out];rfl,bel_trans B1 s8⟩
           ·clear z4
            have S0:(fun V=>Below w1.heap.size w1 V∧V.cell? ⟨w.heap.size,6,none⟩=some (.slice ra ng rc)∧V.cell? ⟨w.heap.size,3,none⟩=some (.int .i64 t0)∧V.cell? ⟨w.heap.size,4,none⟩=some (.int .i64 q)∧V.cell? ⟨w.heap.size,5,none⟩=some (.int .i64 r)) w1.drew:=⟨(Below.refl _ _).drew,d6,d3,d4,d5⟩
            have keepS:∀ V V':World,(fun V=>Below w1.heap.size w1 V∧V.cell? ⟨w.heap.size,6,none⟩=some (.slice ra ng rc)∧V.cell? ⟨w.heap.size,3,none⟩=some (.int .i64 t0)∧V.cell? ⟨w.heap.size,4,none⟩=some (.int .i64 q)∧V.cell? ⟨w.heap.size,5,none⟩=some (.int .i64 r)) V→Below V.heap.size V V'→(fun V=>Below w1.heap.size w1 V∧V.cell? ⟨w.heap.size,6,none⟩=some (.slice ra ng rc)∧V.cell? ⟨w.heap.size,3,none⟩=some (.int .i64 t0)∧V.cell? ⟨w.heap.size,4,none⟩=some (.int .i64 q)∧V.cell? ⟨w.heap.size,5,none⟩=some (.int .i64 r)) V':=fun V V' ⟨a,b,c,d,e⟩ k=>⟨bel_trans a k,cell_bel k b,cell_bel k c,cell_bel k d,cell_bel k e⟩
            go_wp2_with fail
            go_region_held3 (fun V=>Below w1.heap.size w1 V∧V.cell? ⟨w.heap.size,6,none⟩=some (.slice ra ng rc)∧V.cell? ⟨w.heap.size,3,none⟩=some (.int .i64 t0)∧V.cell? ⟨w.heap.size,4,none⟩=some (.int .i64 q)∧V.cell? ⟨w.heap.size,5,none⟩=some (.int .i64 r)) (first | exact S0 | exact keepS _ _ (by assumption) (by assumption)) (first | (go_at_call 26;refine (CT.out _ (bel_trans B1 (And.left (by assumption)))).mono ?_;rintro e' w' ⟨rfl,b8⟩))
            rename_i hHeld8
            have s8:=hHeld8.1
            clear S0 keepS hHeld8
            go_wp2_with fail
            go_ret
            exact ⟨by rw [HF.out];rfl,bel_trans B1 s8⟩
          ·clear z4
           have S0:(fun V=>Below w1.heap.size w1 V∧V.cell? ⟨w.heap.size,6,none⟩=some (.slice ra ng rc)∧V.cell? ⟨w.heap.size,3,none⟩=some (.int .i64 p)∧V.cell? ⟨w.heap.size,4,none⟩=some (.int .i64 q)∧V.cell? ⟨w.heap.size,5,none⟩=some (.int .i64 r)) w1.drew:=⟨(Below.refl _ _).drew,d6,d3,d4,d5⟩
           have keepS:∀ V V':World,(fun V=>Below w1.heap.size w1 V∧V.cell? ⟨w.heap.size,6,none⟩=some (.slice ra ng rc)∧V.cell? ⟨w.heap.size,3,none⟩=some (.int .i64 p)∧V.cell? ⟨w.heap.size,4,none⟩=some (.int .i64 q)∧V.cell? ⟨w.heap.size,5,none⟩=some (.int .i64 r)) V→Below V.heap.size V V'→(fun V=>Below w1.heap.size w1 V∧V.cell? ⟨w.heap.size,6,none⟩=some (.slice ra ng rc)∧V.cell? ⟨w.heap.size,3,none⟩=some (.int .i64 p)∧V.cell? ⟨w.heap.size,4,none⟩=some (.int .i64 q)∧V.cell? ⟨w.heap.size,5,none⟩=some (.int .i64 r)) V':=fun V V' ⟨a,b,c,d,e⟩ k=>⟨bel_trans a k,cell_bel k b,cell_bel k c,cell_bel k d,cell_bel k e⟩
           go_wp2_with fail
           go_region_held3 (fun V=>Below w1.heap.size w1 V∧V.cell? ⟨w.heap.size,6,none⟩=some (.slice ra ng rc)∧V.cell? ⟨w.heap.size,3,none⟩=some (.int .i64 p)∧V.cell? ⟨w.heap.size,4,none⟩=some (.int .i64 q)∧V.cell? ⟨w.heap.size,5,none⟩=some (.int .i64 r)) (first | exact S0 | exact keepS _ _ (by assumption) (by assumption)) (first | (go_at_call 26;refine (CT.out _ (bel_trans B1 (And.left (by assumption)))).mono ?_;rintro e' w' ⟨rfl,b8⟩))
           rename_i hHeld8
           have s8:=hHeld8.1
           clear S0 keepS hHeld8
           go_wp2_with fail
           go_ret
           exact ⟨by rw [HF.out];rfl,bel_trans B1 s8⟩
  ·have HF:Hid (X=(f2:Int)):=HFm.out hl hf
   have j2:((f2:Int) != 0)=true:=bne_iff_ne.2 (by omega)
   clear HFm HY HN HA CB CA LB hf
   rcases hl with rfl | rfl
   ·skip
    have X0:=SBox.new w 28 #[.int .i64 1,.bool ac,.slice oa no oc,.int .i64 p,.int .i64 q,.int .i64 r,.slice ra ng rc]
    have B0:=(Below.refl w.heap.size w).alloc (Nat.le_refl _) (.cells #[.int .i64 1,.bool ac,.slice oa no oc,.int .i64 p,.int .i64 q,.int .i64 r,.slice ra ng rc] 28)
    have c0:=X0.cell 0 _ rfl
    go_enter Tryz.func13,Tryz.ntmps13
    go_wp2_with fail
    refine (CF.out _ B0).mono ?_
    rintro e w1 ⟨rfl,b1⟩
    have B1:=bel_trans B0 b1
    have X1:=X0.below b1
    clear X0 c0
    go_wp2_with fail
    go_ret
    exact ⟨by rw [HF.out];rfl,B1⟩
   ·skip
    have X0:=SBox.new w 28 #[.int .i64 2,.bool ac,.slice oa no oc,.int .i64 p,.int .i64 q,.int .i64 r,.slice ra ng rc]
    have B0:=(Below.refl w.heap.size w).alloc (Nat.le_refl _) (.cells #[.int .i64 2,.bool ac,.slice oa no oc,.int .i64 p,.int .i64 q,.int .i64 r,.slice ra ng rc] 28)
    have c0:=X0.cell 0 _ rfl
    go_enter Tryz.func13,Tryz.ntmps13
    go_wp2_with fail
    refine (CF.out _ B0).mono ?_
    rintro e w1 ⟨rfl,b1⟩
    have B1:=bel_trans B0 b1
    have X1:=X0.below b1
    clear X0 c0
    go_wp2_with fail
    go_ret
    exact ⟨by rw [HF.out];rfl,B1⟩
 ·have HF:Hid (X=1):=HA.out (by omega) (by omega)
  have j1:(lv != 1)=true:=bne_iff_ne.2 (by omega)
  have j2:(lv != 2)=true:=bne_iff_ne.2 (by omega)
  clear HFm HY HN HA CB CA LB hl
  have X0:=SBox.new w 28 #[.int .i64 lv,.bool ac,.slice oa no oc,.int .i64 p,.int .i64 q,.int .i64 r,.slice ra ng rc]
  have B0:=(Below.refl w.heap.size w).alloc (Nat.le_refl _) (.cells #[.int .i64 lv,.bool ac,.slice oa no oc,.int .i64 p,.int .i64 q,.int .i64 r,.slice ra ng rc] 28)
  have c0:=X0.cell 0 _ rfl
  go_enter Tryz.func13,Tryz.ntmps13
  go_wp2_with fail
  go_ret
  exact ⟨by rw [HF.out];rfl,B0⟩
end Go.Proofs.YtdlcimfifkhllaaGreat
