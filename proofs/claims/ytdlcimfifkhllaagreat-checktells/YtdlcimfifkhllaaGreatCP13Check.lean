/-
  What check.Check answers.
-/
import Derived.Test.YtdlcimfifkhllaaGreatCP13Round
import Derived.Test.YtdlcimfifkhllaaGreatCP8Formed
namespace Go.Proofs.YtdlcimfifkhllaaGreat
set_option maxRecDepth 100000
open Go.RowKit Go.Maps
set_option linter.unusedVariables false
attribute [local go_sem] ba_size
attribute [local go_sem] farW_cell
theorem checkV_arg13 (h:List Ev) (v:Vd) (h1:v.1≠1) (h2:v.1≠2):checkV h v=1:=by unfold checkV;rw [if_pos ⟨h1,h2⟩]
theorem checkV_form13 (h:List Ev) (v:Vd) (hl:v.1=1∨v.1=2) (hf:(formedL h).2≠0):checkV h v=((formedL h).2:Int):=by unfold checkV;rw [if_neg (by omega),if_pos hf]
def shownB (h:List Ev) (v:Vd):Bool:=if v.2.1=true then decide ((badsL h).length=0)&&aheadB h v.1 v.2.2.1 else if v.2.2.2.1.1≠0 then decide (v.2.2.2.1=atZ h v.2.2.2.1.2.1) else roundB h v.1 v.2.2.2.2
theorem shown_is13 (h:List Ev) (v:Vd):shownB h v=if v.2.1=true then decide ((badsL h).length=0)&&aheadB h v.1 v.2.2.1 else if v.2.2.2.1.1≠0 then decide (v.2.2.2.1=atZ h v.2.2.2.1.2.1) else roundB h v.1 v.2.2.2.2:=rfl
theorem checkV_is13 (h:List Ev) (v:Vd) (hl:v.1=1∨v.1=2) (hf:(formedL h).2=0):checkV h v=if (v.2.1=true∧v.2.2.2.1.1≠0)∨((v.2.1=true∨v.2.2.2.1.1≠0)∧0 < v.2.2.2.2.length)∨(v.2.1=false∧0 < v.2.2.1.length)∨shownB h v=false then 14 else 0:=by
 unfold checkV shownB
 rw [if_neg (by omega),if_neg (fun e=>e hf)]
 obtain ⟨lv,ac,o,⟨p,q,r⟩,g⟩:=v
 simp only
 cases ac with
 | true =>
   by_cases hp:p=0
   ·by_cases hg:0 < g.length
    ·simp [hp,hg]
    ·by_cases hb:0 < (badsL h).length
     ·simp [hp,hg,hb,Nat.ne_of_gt hb]
     ·have hb2:(badsL h).length=0:=by omega
      cases aheadB h lv o<;>simp [hp,hg,hb2]
   ·simp [hp]
 | false =>
   by_cases ho:0 < o.length
   ·simp [ho]
   ·by_cases hp:p=0
    ·cases roundB h lv g<;>simp [hp,ho]
    ·by_cases hg:0 < g.length
     ·simp [hp,hg,ho]
     ·by_cases he:atZ h q=(p,q,r)
      ·simp [hp,hg,ho,he]
      ·have he2:¬ (p,q,r)=atZ h q:=fun e=>he e.symm
       simp [hp,hg,ho,he,he2]
set_option maxHeartbeats 1000000 in
theorem pkind13_any (p q r:Int) (w:World):Calls Tryz.prog 23 #[.agg #[.int .i64 p,.int .i64 q,.int .i64 r]] w fun e w'=>e=.returned (.bool (p != 0))∧Below w.heap.size w w':=by
 have X:=SBox.new w 25 #[.int .i64 p,.int .i64 q,.int .i64 r]
 have B:=(Below.refl w.heap.size w).alloc (Nat.le_refl _) (.cells #[.int .i64 p,.int .i64 q,.int .i64 r] 25)
 have c0:=X.cell 0 _ rfl
 have HB:=Lib.hid B
 clear X B
 go_enter Tryz.func23,Tryz.ntmps23
 go_wp2_with fail
 go_ret
 exact ⟨rfl,HB.out⟩
set_option maxHeartbeats 8000000 in
theorem pshown13_any (h:List Ev) (vh vo vr:Value) (v:Vd) (w:World) (hT:IsEvs w vh h) (hG:∀ x∈h,goodE x) (hf:fewH h) (hv:okV v) (hO:IsInts w vo v.2.2.1) (hR:IsEds w vr v.2.2.2.2) :
 Calls Tryz.prog 24 #[vh,.agg (vdC v vo vr)] w fun e w'=>e=.returned (.bool (shownB h v))∧Below w.heap.size w w':=by
 have HV:=Lib.hid (shown_is13 h v)
 obtain ⟨lv,ac,o,⟨p,q,r⟩,g⟩:=v
 simp only at hO hR HV ⊢
 have CA:=Lib.hid (fun W (hW:Below w.heap.size w W)=>pahead13_any h vh vo lv o W (hT.below hW) hG hf hv.2.2.1 (hO.below hW) hv.2.2.2.2)
 have CB:=Lib.hid (fun W (hW:Below w.heap.size w W)=>pall9_any h vh W (hT.below hW) (by have:=hf.2;omega))
 have CR:=Lib.hid (fun W (hW:Below w.heap.size w W)=>pround13_any h vh vr lv g W (hT.below hW) (hR.below hW))
 have CT:=fun W (hW:Below w.heap.size w W)=>pat_any h vh W (hT.below hW) q
 have ea:atI h q=atZ h q:=rfl
 rw [ea] at CT
 clear ea
 obtain ⟨oa,oc,rfl,i1,i2,i3,_⟩:=hO.some_at
 obtain ⟨ra,rc,rfl,k1,k2,k3,_⟩:=hR.some_at
 obtain ⟨ah,ch,rfl,_⟩:=hT.some_at
 obtain ⟨X,hX⟩:∃ x,shownB h (lv,ac,o,(p,q,r),g)=x:=⟨_,rfl⟩
 obtain ⟨ab,hab⟩:∃ x,aheadB h lv o=x:=⟨_,rfl⟩
 obtain ⟨rb,hrb⟩:∃ x,roundB h lv g=x:=⟨_,rfl⟩
 obtain ⟨⟨t0,t1,t2⟩,ht⟩:∃ x,atZ h q=x:=⟨_,rfl⟩
 obtain ⟨nb,hnb⟩:∃ x,(badsL h).length=x:=⟨_,rfl⟩
 obtain ⟨nh,hnh⟩:∃ x,h.length=x:=⟨_,rfl⟩
 obtain ⟨no,hno⟩:∃ x,o.length=x:=⟨_,rfl⟩
 obtain ⟨ng,hng⟩:∃ x,g.length=x:=⟨_,rfl⟩
 rw [hX] at HV
 rw [hab] at CA HV
 rw [hrb] at CR HV
 rw [ht] at CT HV
 rw [hnb] at HV
 rw [hX]
 simp only [hnh,hno,hng] at CA CB CR CT ⊢
 have HNb:=Lib.hid hnb
 clear hX hab hrb ht hnh hno hng hT hO hR hv hG hf hnb i1 i2 i3 k1 k2 k3
 cases ac with
 | true =>
   rw [if_pos rfl] at HV
   have X0:=SBox.new w 28 #[.int .i64 lv,.bool true,.slice oa no oc,.int .i64 p,.int .i64 q,.int .i64 r,.slice ra ng rc]
   have B0:=(Below.refl w.heap.size w).alloc (Nat.le_refl _) (.cells #[.int .i64 lv,.bool true,.slice oa no oc,.int .i64 p,.int .i64 q,.int .i64 r,.slice ra ng rc] 28)
   generalize hW0:w.alloc (.cells #[.int .i64 lv,.bool true,.slice oa no oc,.int .i64 p,.int .i64 q,.int .i64 r,.slice ra ng rc] 28)=W0 at X0 B0
   go_enter Tryz.func24,Tryz.ntmps24
   go_upto_region 1 with fail
   (try rw [hW0])
   clear hW0
   have c1:=X0.cell 1 _ rfl
   go_wp2_with fail
   refine (CB.out _ B0).mono ?_
   rintro e w1 ⟨vb,rfl,b1,ob⟩
   have B1:=bel_trans B0 b1
   have X1:=X0.below b1
   obtain ⟨ba,bc,rfl⟩:=own_shape ob
   rw [HNb.out]
   have d0:=X1.cell 0 _ rfl
   have d2:=X1.cell 2 _ rfl
   clear ob X0 c1
   by_cases z:nb=0
   ·have z1:((nb:Int)==0)=true:=by rw [z];rfl
    rw [decide_eq_true z,Bool.true_and] at HV
    clear z
    go_wp2_with fail
    refine (CA.out _ B1).mono ?_
    rintro e w2 ⟨rfl,b2⟩
    go_wp2_with fail
    go_ret
    exact ⟨by rw [HV.out];rfl,bel_trans B1 b2⟩
   ·have z1:((nb:Int)==0)=false:=beq_eq_false_iff_ne.2 (by omega)
    rw [decide_eq_false z,Bool.false_and] at HV
    clear z
    go_wp2_with fail
    go_ret
    exact ⟨by rw [HV.out];rfl,B1⟩
 | false =>
   rw [if_neg (by decide)] at HV
   have X0:=SBox.new w 28 #[.int .i64 lv,.bool false,.slice oa no oc,.int .i64 p,.int .i64 q,.int .i64 r,.slice ra ng rc]
   have B0:=(Below.refl w.heap.size w).alloc (Nat.le_refl _) (.cells #[.int .i64 lv,.bool false,.slice oa no oc,.int .i64 p,.int .i64 q,.int .i64 r,.slice ra ng rc] 28)
   generalize hW0:w.alloc (.cells #[.int .i64 lv,.bool false,.slice oa no oc,.int .i64 p,.int .i64 q,.int .i64 r,.slice ra ng rc] 28)=W0 at X0 B0
   go_enter Tryz.func24,Tryz.ntmps24
   go_upto_region 1 with fail
   (try rw [hW0])
   clear hW0
   have c0:=X0.cell 0 _ rfl
   have c1:=X0.cell 1 _ rfl
   have c2:=X0.cell 2 _ rfl
   have c3:=X0.cell 3 _ rfl
   have c4:=X0.cell 4 _ rfl
   have c5:=X0.cell 5 _ rfl
   have c6:=X0.cell 6 _ rfl
   go_wp2_with fail
   refine (pkind13_any p q r _).mono ?_
   rintro e w1 ⟨rfl,b1⟩
   have B1:=bel_trans B0 b1
   have X1:=X0.below b1
   clear c0 c1 c2 c3 c4 c5 c6 X0
   have c0:=X1.cell 0 _ rfl
   have c1:=X1.cell 1 _ rfl
   have c2:=X1.cell 2 _ rfl
   have c3:=X1.cell 3 _ rfl
   have c4:=X1.cell 4 _ rfl
   have c5:=X1.cell 5 _ rfl
   have c6:=X1.cell 6 _ rfl
   by_cases z:p=0
   ·have z1:(p != 0)=false:=by rw [z];rfl
    rw [if_neg (fun e=>e z)] at HV
    clear z
    go_wp2_with fail
    refine (CR.out _ B1).mono ?_
    rintro e w2 ⟨rfl,b2⟩
    go_wp2_with fail
    go_ret
    exact ⟨by rw [HV.out];rfl,bel_trans B1 b2⟩
   ·have z1:(p != 0)=true:=bne_iff_ne.2 z
    rw [if_pos z] at HV
    clear z
    have ebd:∀ V:World,Sem.run Tryz.prog (binOp .eql 25 (.agg #[.int .i64 p,.int .i64 q,.int .i64 r]) (.agg #[.int .i64 t0,.int .i64 t1,.int .i64 t2])) V=.ok (.bool X) V:=fun V=>by
     rw [run_bdeql,HV.out]
     congr 2
     rw [Bool.eq_iff_iff]
     simp [and_assoc]
    go_upto_region 4 with fail
    refine region_far (by kernel_rfl) (by kernel_rfl) ?_
    repeat (first | go_big_quiet_skip | (go_big_quiet_want;go_big_quiet_op;first | go_big_quiet_on | go_big_quiet_call (first | (go_at_call 52;exact calls_far (CT _ (bel_trans B1 (farW_bel _ _)))))))
    refine wpQuiet_nil ?_
    rintro w' ⟨U,rfl⟩
    have B2:=bel_trans B1 (farW_bel w1 U)
    generalize farW w1 U=w2 at B2 ⊢
    go_wp2_with fail
    go_ret
    exact ⟨rfl,B2⟩
set_option maxHeartbeats 8000000 in
theorem pcheck13_any (h:List Ev) (vh vo vr:Value) (v:Vd) (w:World) (hT:IsEvs w vh h) (hG:∀ x∈h,goodE x) (hf:fewH h) (hv:okV v) (hO:IsInts w vo v.2.2.1) (hR:IsEds w vr v.2.2.2.2) :
 Calls Tryz.prog 12 #[vh,.agg (vdC v vo vr)] w fun e w'=>e=.returned (.int .i64 (checkV h v))∧Below w.heap.size w w':=by
 have HY:=Lib.hid (checkV_is13 h v)
 have HA:=Lib.hid (checkV_arg13 h v)
 have HFm:=Lib.hid (checkV_form13 h v)
 have CF:=fun W (hW:Below w.heap.size w W)=>pformed8_any h vh W (hT.below hW) hG
 have CS:=fun W (hW:Below w.heap.size w W)=>pshown13_any h vh vo vr v W (hT.below hW) hG hf hv (hO.below hW) (hR.below hW)
 obtain ⟨lv,ac,o,⟨p,q,r⟩,g⟩:=v
 simp only at hO hR HY HA HFm CS ⊢
 obtain ⟨oa,oc,rfl,i1,i2,i3,_⟩:=hO.some_at
 obtain ⟨ra,rc,rfl,k1,k2,k3,_⟩:=hR.some_at
 obtain ⟨ah,ch,rfl,_⟩:=hT.some_at
 obtain ⟨X,hX⟩:∃ x,checkV h (lv,ac,o,(p,q,r),g)=x:=⟨_,rfl⟩
 obtain ⟨sb,hsb⟩:∃ x,shownB h (lv,ac,o,(p,q,r),g)=x:=⟨_,rfl⟩
 obtain ⟨f1,hf1⟩:∃ x,(formedL h).1=x:=⟨_,rfl⟩
 obtain ⟨f2,hf2⟩:∃ x,(formedL h).2=x:=⟨_,rfl⟩
 obtain ⟨nh,hnh⟩:∃ x,h.length=x:=⟨_,rfl⟩
 obtain ⟨no,hno⟩:∃ x,o.length=x:=⟨_,rfl⟩
 obtain ⟨ng,hng⟩:∃ x,g.length=x:=⟨_,rfl⟩
 simp only [hX,hsb,hf1,hf2,hnh,hno,hng] at CF CS HY HA HFm ⊢
 clear hX hsb hf1 hf2 hnh hno hng hT hO hR hv hG hf i2 i3 k2 k3
 by_cases h1:lv=1
 ·subst h1
  have X0:=SBox.new w 28 #[.int .i64 1,.bool ac,.slice oa no oc,.int .i64 p,.int .i64 q,.int .i64 r,.slice ra ng rc]
  have B0:=(Below.refl w.heap.size w).alloc (Nat.le_refl _) (.cells #[.int .i64 1,.bool ac,.slice oa no oc,.int .i64 p,.int .i64 q,.int .i64 r,.slice ra ng rc] 28)
  generalize hW0:w.alloc (.cells #[.int .i64 1,.bool ac,.slice oa no oc,.int .i64 p,.int .i64 q,.int .i64 r,.slice ra ng rc] 28)=W0 at X0 B0
  go_enter Tryz.func12,Tryz.ntmps12
  go_upto_region 1 with fail
  (try rw [hW0])
  clear hW0
  have c0:=X0.cell 0 _ rfl
  go_wp2_with fail
  refine (CF _ B0).mono ?_
  rintro e w1 ⟨rfl,b1⟩
  have B1:=bel_trans B0 b1
  have X1:=X0.below b1
  clear c0 X0 CF
  by_cases hf:f2=0
  ·have HY2:=Lib.hid (HY.out (by simp) hf)
   subst hf
   clear HY HA HFm
   have c0:=X1.cell 0 _ rfl
   have c1:=X1.cell 1 _ rfl
   have c2:=X1.cell 2 _ rfl
   have c3:=X1.cell 3 _ rfl
   have c4:=X1.cell 4 _ rfl
   have c5:=X1.cell 5 _ rfl
   have c6:=X1.cell 6 _ rfl
   go_wp2_with fail
   refine (pkind13_any p q r _).mono ?_
   rintro e w2 ⟨rfl,b2⟩
   have B2:=bel_trans B1 b2
   have X2:=X1.below b2
   clear c0 c1 c2 c3 c4 c5 c6 X1
   have c0:=X2.cell 0 _ rfl
   have c1:=X2.cell 1 _ rfl
   have c2:=X2.cell 2 _ rfl
   have c3:=X2.cell 3 _ rfl
   have c4:=X2.cell 4 _ rfl
   have c5:=X2.cell 5 _ rfl
   have c6:=X2.cell 6 _ rfl
   cases ac with
   | true =>
     by_cases zp:p=0
     ·have jp:(p != 0)=false:=by rw [zp];rfl
      by_cases zg:0 < ng
      ·have jg:(0:Int) < (ng:Int):=by omega
       have HF:Hid (X=14):=by show _=_;rw [HY2.out];simp [zp,zg]
       clear HY2 zp zg
       go_wp2_with fail
       go_ret
       exact ⟨by rw [HF.out];rfl,B2⟩
      ·have jg:¬ (0:Int) < (ng:Int):=by omega
       have CS2:=CS _ B2
       have HZ:Hid (X=if sb=false then 14 else 0):=by show _=_;rw [HY2.out];simp [zp,zg]
       clear HY2 CS zp zg
       go_wp2_with fail
       refine CS2.mono ?_
       rintro e w3 ⟨rfl,b3⟩
       have B3:=bel_trans B2 b3
       cases sb with
       | true =>
         have HF:Hid (X=0):=HZ.out
         clear HZ
         go_wp2_with fail
         go_ret
         exact ⟨by rw [HF.out];rfl,B3⟩
       | false =>
         have HF:Hid (X=14):=HZ.out
         clear HZ
         go_wp2_with fail
         go_ret
         exact ⟨by rw [HF.out];rfl,B3⟩
     ·have jp:(p != 0)=true:=bne_iff_ne.2 zp
      have HF:Hid (X=14):=by show _=_;rw [HY2.out];simp [zp]
      clear HY2 zp
      go_wp2_with fail
      go_ret
      exact ⟨by rw [HF.out];rfl,B2⟩
   | false =>
     by_cases zp:p=0
     ·have jp:(p != 0)=false:=by rw [zp];rfl
      by_cases zo:0 < no
      ·have jo:(0:Int) < (no:Int):=by omega
       have HF:Hid (X=14):=by show _=_;rw [HY2.out];simp [zp,zo]
       clear HY2 zp zo
       go_wp2_with fail
       go_ret
       exact ⟨by rw [HF.out];rfl,B2⟩
      ·have jo:¬ (0:Int) < (no:Int):=by omega
       have CS2:=CS _ B2
       have HZ:Hid (X=if sb=false then 14 else 0):=by show _=_;rw [HY2.out];simp [zp,zo]
       clear HY2 CS zp zo
       go_wp2_with fail
       refine CS2.mono ?_
       rintro e w3 ⟨rfl,b3⟩
       have B3:=bel_trans B2 b3
       cases sb with
       | true =>
         have HF:Hid (X=0):=HZ.out
         clear HZ
         go_wp2_with fail
         go_ret
         exact ⟨by rw [HF.out];rfl,B3⟩
       | false =>
         have HF:Hid (X=14):=HZ.out
         clear HZ
         go_wp2_with fail
         go_ret
         exact ⟨by rw [HF.out];rfl,B3⟩
     ·have jp:(p != 0)=true:=bne_iff_ne.2 zp
      by_cases zg:0 < ng
      ·have jg:(0:Int) < (ng:Int):=by omega
       have HF:Hid (X=14):=by show _=_;rw [HY2.out];simp [zp,zg]
       clear HY2 zp zg
       go_wp2_with fail
       go_ret
       exact ⟨by rw [HF.out];rfl,B2⟩
      ·have jg:¬ (0:Int) < (ng:Int):=by omega
       by_cases zo:0 < no
       ·have jo:(0:Int) < (no:Int):=by omega
        have HF:Hid (X=14):=by show _=_;rw [HY2.out];simp [zp,zg,zo]
        clear HY2 zp zg zo
        go_wp2_with fail
        go_ret
        exact ⟨by rw [HF.out];rfl,B2⟩
       ·have jo:¬ (0:Int) < (no:Int):=by omega
        have CS2:=CS _ B2
        have HZ:Hid (X=if sb=false then 14 else 0):=by show _=_;rw [HY2.out];simp [zp,zg,zo]
        clear HY2 CS zp zg zo
        go_wp2_with fail
        refine CS2.mono ?_
        rintro e w3 ⟨rfl,b3⟩
        have B3:=bel_trans B2 b3
        cases sb with
        | true =>
          have HF:Hid (X=0):=HZ.out
          clear HZ
          go_wp2_with fail
          go_ret
          exact ⟨by rw [HF.out];rfl,B3⟩
        | false =>
          have HF:Hid (X=14):=HZ.out
          clear HZ
          go_wp2_with fail
          go_ret
          exact ⟨by rw [HF.out];rfl,B3⟩
  ·have HF:Hid (X=(f2:Int)):=HFm.out (by simp) hf
   have j2:((f2:Int) != 0)=true:=bne_iff_ne.2 (by omega)
   clear HY HA HFm hf
   go_wp2_with fail
   go_ret
   exact ⟨by rw [HF.out];rfl,B1⟩
 ·by_cases h2:lv=2
  ·subst h2
   have X0:=SBox.new w 28 #[.int .i64 2,.bool ac,.slice oa no oc,.int .i64 p,.int .i64 q,.int .i64 r,.slice ra ng rc]
   have B0:=(Below.refl w.heap.size w).alloc (Nat.le_refl _) (.cells #[.int .i64 2,.bool ac,.slice oa no oc,.int .i64 p,.int .i64 q,.int .i64 r,.slice ra ng rc] 28)
   generalize hW0:w.alloc (.cells #[.int .i64 2,.bool ac,.slice oa no oc,.int .i64 p,.int .i64 q,.int .i64 r,.slice ra ng rc] 28)=W0 at X0 B0
   go_enter Tryz.func12,Tryz.ntmps12
   go_upto_region 1 with fail
   (try rw [hW0])
   clear hW0
   have c0:=X0.cell 0 _ rfl
   go_wp2_with fail
   refine (CF _ B0).mono ?_
   rintro e w1 ⟨rfl,b1⟩
   have B1:=bel_trans B0 b1
   have X1:=X0.below b1
   clear c0 X0 CF
   by_cases hf:f2=0
   ·have HY2:=Lib.hid (HY.out (by simp) hf)
    subst hf
    clear HY HA HFm
    have c0:=X1.cell 0 _ rfl
    have c1:=X1.cell 1 _ rfl
    have c2:=X1.cell 2 _ rfl
    have c3:=X1.cell 3 _ rfl
    have c4:=X1.cell 4 _ rfl
    have c5:=X1.cell 5 _ rfl
    have c6:=X1.cell 6 _ rfl
    go_wp2_with fail
    refine (pkind13_any p q r _).mono ?_
    rintro e w2 ⟨rfl,b2⟩
    have B2:=bel_trans B1 b2
    have X2:=X1.below b2
    clear c0 c1 c2 c3 c4 c5 c6 X1
    have c0:=X2.cell 0 _ rfl
    have c1:=X2.cell 1 _ rfl
    have c2:=X2.cell 2 _ rfl
    have c3:=X2.cell 3 _ rfl
    have c4:=X2.cell 4 _ rfl
    have c5:=X2.cell 5 _ rfl
    have c6:=X2.cell 6 _ rfl
    cases ac with
    | true =>
      by_cases zp:p=0
      ·have jp:(p != 0)=false:=by rw [zp];rfl
       by_cases zg:0 < ng
       ·have jg:(0:Int) < (ng:Int):=by omega
        have HF:Hid (X=14):=by show _=_;rw [HY2.out];simp [zp,zg]
        clear HY2 zp zg
        go_wp2_with fail
        go_ret
        exact ⟨by rw [HF.out];rfl,B2⟩
       ·have jg:¬ (0:Int) < (ng:Int):=by omega
        have CS2:=CS _ B2
        have HZ:Hid (X=if sb=false then 14 else 0):=by show _=_;rw [HY2.out];simp [zp,zg]
        clear HY2 CS zp zg
        go_wp2_with fail
        refine CS2.mono ?_
        rintro e w3 ⟨rfl,b3⟩
        have B3:=bel_trans B2 b3
        cases sb with
        | true =>
          have HF:Hid (X=0):=HZ.out
          clear HZ
          go_wp2_with fail
          go_ret
          exact ⟨by rw [HF.out];rfl,B3⟩
        | false =>
          have HF:Hid (X=14):=HZ.out
          clear HZ
          go_wp2_with fail
          go_ret
          exact ⟨by rw [HF.out];rfl,B3⟩
      ·have jp:(p != 0)=true:=bne_iff_ne.2 zp
       have HF:Hid (X=14):=by show _=_;rw [HY2.out];simp [zp]
       clear HY2 zp
       go_wp2_with fail
       go_ret
       exact ⟨by rw [HF.out];rfl,B2⟩
    | false =>
      by_cases zp:p=0
      ·have jp:(p != 0)=false:=by rw [zp];rfl
       by_cases zo:0 < no
       ·have jo:(0:Int) < (no:Int):=by omega
        have HF:Hid (X=14):=by show _=_;rw [HY2.out];simp [zp,zo]
        clear HY2 zp zo
        go_wp2_with fail
        go_ret
        exact ⟨by rw [HF.out];rfl,B2⟩
       ·have jo:¬ (0:Int) < (no:Int):=by omega
        have CS2:=CS _ B2
        have HZ:Hid (X=if sb=false then 14 else 0):=by show _=_;rw [HY2.out];simp [zp,zo]
        clear HY2 CS zp zo
        go_wp2_with fail
        refine CS2.mono ?_
        rintro e w3 ⟨rfl,b3⟩
        have B3:=bel_trans B2 b3
        cases sb with
        | true =>
          have HF:Hid (X=0):=HZ.out
          clear HZ
          go_wp2_with fail
          go_ret
          exact ⟨by rw [HF.out];rfl,B3⟩
        | false =>
          have HF:Hid (X=14):=HZ.out
          clear HZ
          go_wp2_with fail
          go_ret
          exact ⟨by rw [HF.out];rfl,B3⟩
      ·have jp:(p != 0)=true:=bne_iff_ne.2 zp
       by_cases zg:0 < ng
       ·have jg:(0:Int) < (ng:Int):=by omega
        have HF:Hid (X=14):=by show _=_;rw [HY2.out];simp [zp,zg]
        clear HY2 zp zg
        go_wp2_with fail
        go_ret
        exact ⟨by rw [HF.out];rfl,B2⟩
       ·have jg:¬ (0:Int) < (ng:Int):=by omega
        by_cases zo:0 < no
        ·have jo:(0:Int) < (no:Int):=by omega
         have HF:Hid (X=14):=by show _=_;rw [HY2.out];simp [zp,zg,zo]
         clear HY2 zp zg zo
         go_wp2_with fail
         go_ret
         exact ⟨by rw [HF.out];rfl,B2⟩
        ·have jo:¬ (0:Int) < (no:Int):=by omega
         have CS2:=CS _ B2
         have HZ:Hid (X=if sb=false then 14 else 0):=by show _=_;rw [HY2.out];simp [zp,zg,zo]
         clear HY2 CS zp zg zo
         go_wp2_with fail
         refine CS2.mono ?_
         rintro e w3 ⟨rfl,b3⟩
         have B3:=bel_trans B2 b3
         cases sb with
         | true =>
           have HF:Hid (X=0):=HZ.out
           clear HZ
           go_wp2_with fail
           go_ret
           exact ⟨by rw [HF.out];rfl,B3⟩
         | false =>
           have HF:Hid (X=14):=HZ.out
           clear HZ
           go_wp2_with fail
           go_ret
           exact ⟨by rw [HF.out];rfl,B3⟩
   ·have HF:Hid (X=(f2:Int)):=HFm.out (by simp) hf
    have j2:((f2:Int) != 0)=true:=bne_iff_ne.2 (by omega)
    clear HY HA HFm hf
    go_wp2_with fail
    go_ret
    exact ⟨by rw [HF.out];rfl,B1⟩
  ·have HF:Hid (X=1):=HA.out h1 h2
   have j1:(lv != 1)=true:=bne_iff_ne.2 h1
   have j2:(lv != 2)=true:=bne_iff_ne.2 h2
   clear h1 h2 HY HA HFm CF CS
   have X0:=SBox.new w 28 #[.int .i64 lv,.bool ac,.slice oa no oc,.int .i64 p,.int .i64 q,.int .i64 r,.slice ra ng rc]
   have B0:=(Below.refl w.heap.size w).alloc (Nat.le_refl _) (.cells #[.int .i64 lv,.bool ac,.slice oa no oc,.int .i64 p,.int .i64 q,.int .i64 r,.slice ra ng rc] 28)
   generalize hW0:w.alloc (.cells #[.int .i64 lv,.bool ac,.slice oa no oc,.int .i64 p,.int .i64 q,.int .i64 r,.slice ra ng rc] 28)=W0 at X0 B0
   go_enter Tryz.func12,Tryz.ntmps12
   go_upto_region 1 with fail
   (try rw [hW0])
   clear hW0
   have c0:=X0.cell 0 _ rfl
   go_wp2_with fail
   go_ret
   exact ⟨by rw [HF.out];rfl,B0⟩
end Go.Proofs.YtdlcimfifkhllaaGreat
