/-
  The walk of JudgeTells.
-/
import Derived.Test.YtiihegldhnlleaaGreatCShown12
import Derived.Test.YtiihegldhnlleaaGreatSJudgeTellsR12Judge
namespace Go.Proofs.YtiihegldhnlleaaGreat
set_option maxRecDepth 100000
open Go.RowKit
set_option linter.unusedVariables false
attribute [local go_sem] ba_size
theorem ints_own13 {W:World} {B:Nat} {v:Value} {l:List Int} (h:W.ownsRow B 3 1 v l.length (recV intV l)) (hn:l.length≤140737488351232):IsInts W v l:=IsRec.own intV_len (by omega) h hn
theorem judge_few (h:List Ev) (level:Int):(judgeL h level).1.2.2.1.length≤1000000∧(judgeL h level).1.2.2.2.2.length≤1000000:=by
 by_cases hl:level=1∨level=2
 ·by_cases hf:(formedL h).2=0
  ·obtain ⟨l1,l2,l3,l4⟩:=wf_bounds ((formed_ok h).1 hf) level
   cases hb:badsL h with
   | cons b r=>rw [judge_bad h level hl hf b r hb];simp
   | nil =>
     cases ho:orderL (nodeL h) (stepsL level (edgesL h)) with
     | some o =>
       rw [judge_order h level hl hf hb o ho]
       have:=orderF_few _ (nodeL h).length (nodeL h) o ho
       simp only [List.length_nil]
       omega
     | none=>rw [judge_ring h level hl hf hb ho];simp only [List.length_nil];omega
  ·rw [judge_form h level hl hf];simp [zV]
 ·rw [judge_arg h level (by omega) (by omega)];simp [zV]
set_option maxHeartbeats 8000000 in
theorem tells12_walk (C:P12C) (w:World) (vh:Value) (h:List Ev) (Th:IsEvs w vh h) (Gh:∀ x∈h,goodE x) (level:Int) (gl:-9223372036854775808≤level∧level≤9223372036854775807) (ot:Vd) (vto vtr:Value) (To:IsInts w vto ot.2.2.1) (Tr:IsEds w vtr ot.2.2.2.2) :
 Calls Tryz.prog 3 #[vh,.int .i64 level,.agg (vdC ot vto vtr)] w fun e w'=>e=.returned (.bool true)∧Below w.heap.size w w':=by
 have HSh:Hid (∀ W,Below w.heap.size w W→Calls Tryz.prog 10 #[] W fun e w'=>e=.returned (.bool true)∧Below W.heap.size W w'):=fun W h=>shown12_any C W
 have HF:Hid (∀ W,Below w.heap.size w W→Calls Tryz.prog 11 #[vh] W fun e w'=>e=.returned (.bool (decide (h.length≤80)))∧Below W.heap.size W w'):=fun W hb=>few12_any vh h W (Th.below hb)
 obtain ⟨tl,ta,tol,⟨tp,tq,tr⟩,trl⟩:=ot
 simp only at To Tr
 have To0:=To
 have Tr0:=Tr
 obtain ⟨toa,toc,rfl,_⟩:=To.some_at
 obtain ⟨tra,trc,rfl,_⟩:=Tr.some_at
 clear To Tr
 by_cases h1:h.length≤80
 ·rw [decide_eq_true h1] at HF
  have HJ:Hid (∀ W,Below w.heap.size w W→Calls Tryz.prog 12 #[vh,.int .i64 level] W fun e w'=>VRes W (judgeL h level) e w'):=fun W hb=>C.judge h vh W level (Th.below hb) Gh (by omega) gl
  have RJ:Hid (∀ W,Below w.heap.size w W→Calls Tryz.prog 13 #[vh,.int .i64 level] W fun e w'=>VRes W (judgeL h level) e w'):=fun W hb=>rjudge_any h vh W level (Th.below hb)
  have HS1:Hid (∀ (a b:Vd) ao ar bo br W,IsInts W ao a.2.2.1→IsEds W ar a.2.2.2.2→IsInts W bo b.2.2.1→IsEds W br b.2.2.2.2→Calls Tryz.prog 15 #[.agg (vdC a ao ar),.agg (vdC b bo br)] W fun e w'=>e=.returned (.bool (sameV a b))∧Below W.heap.size W w'):=fun a b ao ar bo br W h1 h2 h3 h4=>C.same a b ao ar bo br W h1 h2 h3 h4
  obtain ⟨⟨⟨lv,ac,o,⟨p,q,r⟩,g⟩,x⟩,hx⟩:∃ y,judgeL h level=y:=⟨_,rfl⟩
  have hbo:o.length≤1000000∧g.length≤1000000:=by
   have:=judge_few h level
   rw [hx] at this
   exact this
  rw [hx] at HJ RJ
  obtain ⟨ah,ch,rfl,ih,jh,kh,HCh⟩:=Th.reads
  obtain ⟨n,hn⟩:∃ n,h.length=n:=⟨_,rfl⟩
  rw [hn] at HF HJ RJ ⊢
  clear hx hn
  obtain ⟨hbo1,hbo2⟩:=hbo
  have e_x:(x==x)=true:=beq_self_eq_true _
  obtain ⟨sv,hsv⟩:∃ sv,sameV (lv,ac,o,(p,q,r),g) (tl,ta,tol,(tp,tq,tr),trl)=sv:=⟨_,rfl⟩
  have HSV:Hid (sameV (lv,ac,o,(p,q,r),g) (tl,ta,tol,(tp,tq,tr),trl)=sv):=hsv
  have e_s:(sv==sv)=true:=beq_self_eq_true _
  clear hsv
  have X_t:=SBox.new w 28 #[.int .i64 tl,.bool ta,.slice toa tol.length toc,.int .i64 tp,.int .i64 tq,.int .i64 tr,.slice tra trl.length trc]
  have B_t:=Below.alloc (Below.refl w.heap.size w) (Below.size (Below.refl w.heap.size w)) (.cells #[.int .i64 tl,.bool ta,.slice toa tol.length toc,.int .i64 tp,.int .i64 tq,.int .i64 tr,.slice tra trl.length trc] 28)
  go_enter Tryz.func3,Tryz.ntmps3
  have f_t0_0:=X_t.cell 0 _ rfl
  have f_t1_0:=X_t.cell 1 _ rfl
  have f_t2_0:=X_t.cell 2 _ rfl
  have f_t3_0:=X_t.cell 3 _ rfl
  have f_t4_0:=X_t.cell 4 _ rfl
  have f_t5_0:=X_t.cell 5 _ rfl
  have f_t6_0:=X_t.cell 6 _ rfl
  go_wp2_with fail
  refine (HSh.out _ B_t).mono ?_
  rintro e w1 ⟨rfl,b1⟩
  have B1:=bel_trans B_t b1
  clear f_t0_0 f_t1_0 f_t2_0 f_t3_0 f_t4_0 f_t5_0 f_t6_0
  replace X_t:=X_t.below b1
  have f_t0_1:=X_t.cell 0 _ rfl
  have f_t1_1:=X_t.cell 1 _ rfl
  have f_t2_1:=X_t.cell 2 _ rfl
  have f_t3_1:=X_t.cell 3 _ rfl
  have f_t4_1:=X_t.cell 4 _ rfl
  have f_t5_1:=X_t.cell 5 _ rfl
  have f_t6_1:=X_t.cell 6 _ rfl
  go_wp2_with fail
  refine (HF.out _ B1).mono ?_
  rintro e w2 ⟨rfl,b2⟩
  have B2:=bel_trans B1 b2
  clear f_t0_1 f_t1_1 f_t2_1 f_t3_1 f_t4_1 f_t5_1 f_t6_1
  replace X_t:=X_t.below b2
  have f_t0_2:=X_t.cell 0 _ rfl
  have f_t1_2:=X_t.cell 1 _ rfl
  have f_t2_2:=X_t.cell 2 _ rfl
  have f_t3_2:=X_t.cell 3 _ rfl
  have f_t4_2:=X_t.cell 4 _ rfl
  have f_t5_2:=X_t.cell 5 _ rfl
  have f_t6_2:=X_t.cell 6 _ rfl
  go_wp2_with fail
  refine (HJ.out _ B2).mono ?_
  rintro e w3 ⟨vo,vr,rfl,b3,O3,R3⟩
  obtain ⟨oa,oc,rfl⟩:=own_shape13 O3
  obtain ⟨ra,rc,rfl⟩:=own_shape13 R3
  have B3:=bel_trans B2 b3
  have X3:=SBox.new w3 28 #[.int .i64 lv,.bool ac,.slice oa o.length oc,.int .i64 p,.int .i64 q,.int .i64 r,.slice ra g.length rc]
  have D3:=B3.alloc B3.size (.cells #[.int .i64 lv,.bool ac,.slice oa o.length oc,.int .i64 p,.int .i64 q,.int .i64 r,.slice ra g.length rc] 28)
  have Y3:=(X_t.below b3).alloc (.cells #[.int .i64 lv,.bool ac,.slice oa o.length oc,.int .i64 p,.int .i64 q,.int .i64 r,.slice ra g.length rc] 28)
  go_wp2_with fail
  refine (RJ.out _ D3).mono ?_
  rintro e w4 ⟨vo,vr,rfl,b4,O4,R4⟩
  obtain ⟨oab,ocb,rfl⟩:=own_shape13 O4
  obtain ⟨rab,rcb,rfl⟩:=own_shape13 R4
  have B4:=bel_trans D3 b4
  have X4:=(X3.below b4).alloc (.cells #[.int .i64 lv,.bool ac,.slice oab o.length ocb,.int .i64 p,.int .i64 q,.int .i64 r,.slice rab g.length rcb] 28)
  have Z4:=SBox.new w4 28 #[.int .i64 lv,.bool ac,.slice oab o.length ocb,.int .i64 p,.int .i64 q,.int .i64 r,.slice rab g.length rcb]
  have Y4:=(Y3.below b4).alloc (.cells #[.int .i64 lv,.bool ac,.slice oab o.length ocb,.int .i64 p,.int .i64 q,.int .i64 r,.slice rab g.length rcb] 28)
  have D4:=B4.alloc B4.size (.cells #[.int .i64 lv,.bool ac,.slice oab o.length ocb,.int .i64 p,.int .i64 q,.int .i64 r,.slice rab g.length rcb] 28)
  have b35:Below w3.heap.size w3 ((w4.alloc (.cells #[.int .i64 lv,.bool ac,.slice oab o.length ocb,.int .i64 p,.int .i64 q,.int .i64 r,.slice rab g.length rcb] 28))):=by
   have q1:Below w3.heap.size w3 (w3.alloc (.cells #[.int .i64 lv,.bool ac,.slice oa o.length oc,.int .i64 p,.int .i64 q,.int .i64 r,.slice ra g.length rc] 28)):=(Below.refl _ _).alloc (Nat.le_refl _) _
   have q2:=bel_trans q1 b4
   exact q2.alloc q2.size _
  have TA1:IsInts (w4.alloc (.cells #[.int .i64 lv,.bool ac,.slice oab o.length ocb,.int .i64 p,.int .i64 q,.int .i64 r,.slice rab g.length rcb] 28)) (.slice oa o.length oc) o:=(ints_own13 (l:=o) O3 (by omega)).below b35
  have TA2:IsEds (w4.alloc (.cells #[.int .i64 lv,.bool ac,.slice oab o.length ocb,.int .i64 p,.int .i64 q,.int .i64 r,.slice rab g.length rcb] 28)) (.slice ra g.length rc) g:=(IsRec.own (L:=g) (n:=g.length) edV_len (by omega) R3 (by omega)).below b35
  have TB1:IsInts (w4.alloc (.cells #[.int .i64 lv,.bool ac,.slice oab o.length ocb,.int .i64 p,.int .i64 q,.int .i64 r,.slice rab g.length rcb] 28)) (.slice oab o.length ocb) o:=(ints_own13 (l:=o) O4 (by omega)).below ((Below.refl _ _).alloc (Nat.le_refl _) _)
  have TB2:IsEds (w4.alloc (.cells #[.int .i64 lv,.bool ac,.slice oab o.length ocb,.int .i64 p,.int .i64 q,.int .i64 r,.slice rab g.length rcb] 28)) (.slice rab g.length rcb) g:=(IsRec.own (L:=g) (n:=g.length) edV_len (by omega) R4 (by omega)).below ((Below.refl _ _).alloc (Nat.le_refl _) _)
  have TT1:=To0.below D4
  have TT2:=Tr0.below D4
  have DS:=rsamev_any (lv,ac,o,(p,q,r),g) (lv,ac,o,(p,q,r),g) _ _ _ _ _ TA1 TA2 TB1 TB2
  rw [(sameV_iff _ _).2 rfl] at DS
  have u0:=X4.cell 0 _ rfl
  have u1:=X4.cell 1 _ rfl
  have u2:=X4.cell 2 _ rfl
  have u3:=X4.cell 3 _ rfl
  have u4:=X4.cell 4 _ rfl
  have u5:=X4.cell 5 _ rfl
  have u6:=X4.cell 6 _ rfl
  have z0:=Z4.cell 0 _ rfl
  have z1:=Z4.cell 1 _ rfl
  have z2:=Z4.cell 2 _ rfl
  have z3:=Z4.cell 3 _ rfl
  have z4:=Z4.cell 4 _ rfl
  have z5:=Z4.cell 5 _ rfl
  have z6:=Z4.cell 6 _ rfl
  go_wp2_with fail
  refine DS.mono ?_
  rintro e w6 ⟨rfl,b6⟩
  have B6:=bel_trans D4 b6
  have X6:=X4.below b6
  have Y6:=Y4.below b6
  clear u0 u1 u2 u3 u4 u5 u6 z0 z1 z2 z3 z4 z5 z6 DS
  have u0:=X6.cell 0 _ rfl
  have u1:=X6.cell 1 _ rfl
  have u2:=X6.cell 2 _ rfl
  have u3:=X6.cell 3 _ rfl
  have u4:=X6.cell 4 _ rfl
  have u5:=X6.cell 5 _ rfl
  have u6:=X6.cell 6 _ rfl
  have z0:=Y6.cell 0 _ rfl
  have z1:=Y6.cell 1 _ rfl
  have z2:=Y6.cell 2 _ rfl
  have z3:=Y6.cell 3 _ rfl
  have z4:=Y6.cell 4 _ rfl
  have z5:=Y6.cell 5 _ rfl
  have z6:=Y6.cell 6 _ rfl
  have HAO:Hid (∀ V,Below w6.heap.size w6 V→Calls Tryz.prog 15 #[.agg #[.int .i64 lv,.bool ac,.slice oa o.length oc,.int .i64 p,.int .i64 q,.int .i64 r,.slice ra g.length rc],.agg #[.int .i64 tl,.bool ta,.slice toa tol.length toc,.int .i64 tp,.int .i64 tq,.int .i64 tr,.slice tra trl.length trc]] V fun e w'=>e=.returned (.bool sv)∧Below V.heap.size V w'):=fun V hV=>by
   have:=HS1.out (lv,ac,o,(p,q,r),g) (tl,ta,tol,(tp,tq,tr),trl) _ _ _ _ V (TA1.below (bel_trans b6 hV)) (TA2.below (bel_trans b6 hV)) (TT1.below (bel_trans b6 hV)) (TT2.below (bel_trans b6 hV))
   rw [HSV.out] at this
   exact this
  have HRO:Hid (∀ V,Below w6.heap.size w6 V→Calls Tryz.prog 14 #[.agg #[.int .i64 lv,.bool ac,.slice oa o.length oc,.int .i64 p,.int .i64 q,.int .i64 r,.slice ra g.length rc],.agg #[.int .i64 tl,.bool ta,.slice toa tol.length toc,.int .i64 tp,.int .i64 tq,.int .i64 tr,.slice tra trl.length trc]] V fun e w'=>e=.returned (.bool sv)∧Below V.heap.size V w'):=fun V hV=>by
   have:=rsamev_any (lv,ac,o,(p,q,r),g) (tl,ta,tol,(tp,tq,tr),trl) _ _ _ _ V (TA1.below (bel_trans b6 hV)) (TA2.below (bel_trans b6 hV)) (TT1.below (bel_trans b6 hV)) (TT2.below (bel_trans b6 hV))
   rw [HSV.out] at this
   exact this
  have HAA:Hid (∀ V,Below w6.heap.size w6 V→Calls Tryz.prog 15 #[.agg #[.int .i64 lv,.bool ac,.slice oa o.length oc,.int .i64 p,.int .i64 q,.int .i64 r,.slice ra g.length rc],.agg #[.int .i64 lv,.bool ac,.slice oa o.length oc,.int .i64 p,.int .i64 q,.int .i64 r,.slice ra g.length rc]] V fun e w'=>e=.returned (.bool true)∧Below V.heap.size V w'):=fun V hV=>by
   have:=HS1.out (lv,ac,o,(p,q,r),g) (lv,ac,o,(p,q,r),g) _ _ _ _ V (TA1.below (bel_trans b6 hV)) (TA2.below (bel_trans b6 hV)) (TA1.below (bel_trans b6 hV)) (TA2.below (bel_trans b6 hV))
   rw [(sameV_iff _ _).2 rfl] at this
   exact this
  have HA:Hid (∀ (t0:Int) (t1:Bool) (t2:Value) (t3 t4 t5:Int) (t6:Value) (res:Bool) (V:World),((t0,t1,t2,t3,t4,t5,t6,res)=(tl,ta,Value.slice toa tol.length toc,tp,tq,tr,Value.slice tra trl.length trc,sv)∨(t0,t1,t2,t3,t4,t5,t6,res)=(lv,ac,Value.slice oa o.length oc,p,q,r,Value.slice ra g.length rc,true))→Below w6.heap.size w6 V→Calls Tryz.prog 15 #[.agg #[.int .i64 lv,.bool ac,.slice oa o.length oc,.int .i64 p,.int .i64 q,.int .i64 r,.slice ra g.length rc],.agg #[.int .i64 t0,.bool t1,t2,.int .i64 t3,.int .i64 t4,.int .i64 t5,t6]] V fun e w'=>e=.returned (.bool res)∧Below V.heap.size V w'):=by
   rintro t0 t1 t2 t3 t4 t5 t6 res V (hh | hh) hV
   ·cases hh;exact HAO.out V hV
   ·cases hh;exact HAA.out V hV
  clear TA1 TA2 TB1 TB2 TT1 TT2 O3 R3 O4 R4 X3 X4 Z4 Y3 Y4 To0 Tr0 HS1 HAO HAA
  have S0:(fun V=>Below w6.heap.size w6 V∧V.cell? ⟨w3.heap.size,0,none⟩=some (.int .i64 lv)∧V.cell? ⟨w3.heap.size,1,none⟩=some (.bool ac)∧V.cell? ⟨w3.heap.size,2,none⟩=some (.slice oa o.length oc)∧V.cell? ⟨w3.heap.size,3,none⟩=some (.int .i64 p)∧V.cell? ⟨w3.heap.size,4,none⟩=some (.int .i64 q)∧V.cell? ⟨w3.heap.size,5,none⟩=some (.int .i64 r)∧V.cell? ⟨w3.heap.size,6,none⟩=some (.slice ra g.length rc)∧V.cell? ⟨w.heap.size,0,none⟩=some (.int .i64 tl)∧V.cell? ⟨w.heap.size,1,none⟩=some (.bool ta)∧V.cell? ⟨w.heap.size,2,none⟩=some (.slice toa tol.length toc)∧V.cell? ⟨w.heap.size,3,none⟩=some (.int .i64 tp)∧V.cell? ⟨w.heap.size,4,none⟩=some (.int .i64 tq)∧V.cell? ⟨w.heap.size,5,none⟩=some (.int .i64 tr)∧V.cell? ⟨w.heap.size,6,none⟩=some (.slice tra trl.length trc)) w6.drew:=⟨(Below.refl _ _).drew,u0,u1,u2,u3,u4,u5,u6,z0,z1,z2,z3,z4,z5,z6⟩
  have keepS:∀ V V':World,(fun V=>Below w6.heap.size w6 V∧V.cell? ⟨w3.heap.size,0,none⟩=some (.int .i64 lv)∧V.cell? ⟨w3.heap.size,1,none⟩=some (.bool ac)∧V.cell? ⟨w3.heap.size,2,none⟩=some (.slice oa o.length oc)∧V.cell? ⟨w3.heap.size,3,none⟩=some (.int .i64 p)∧V.cell? ⟨w3.heap.size,4,none⟩=some (.int .i64 q)∧V.cell? ⟨w3.heap.size,5,none⟩=some (.int .i64 r)∧V.cell? ⟨w3.heap.size,6,none⟩=some (.slice ra g.length rc)∧V.cell? ⟨w.heap.size,0,none⟩=some (.int .i64 tl)∧V.cell? ⟨w.heap.size,1,none⟩=some (.bool ta)∧V.cell? ⟨w.heap.size,2,none⟩=some (.slice toa tol.length toc)∧V.cell? ⟨w.heap.size,3,none⟩=some (.int .i64 tp)∧V.cell? ⟨w.heap.size,4,none⟩=some (.int .i64 tq)∧V.cell? ⟨w.heap.size,5,none⟩=some (.int .i64 tr)∧V.cell? ⟨w.heap.size,6,none⟩=some (.slice tra trl.length trc)) V→Below V.heap.size V V'→(fun V=>Below w6.heap.size w6 V∧V.cell? ⟨w3.heap.size,0,none⟩=some (.int .i64 lv)∧V.cell? ⟨w3.heap.size,1,none⟩=some (.bool ac)∧V.cell? ⟨w3.heap.size,2,none⟩=some (.slice oa o.length oc)∧V.cell? ⟨w3.heap.size,3,none⟩=some (.int .i64 p)∧V.cell? ⟨w3.heap.size,4,none⟩=some (.int .i64 q)∧V.cell? ⟨w3.heap.size,5,none⟩=some (.int .i64 r)∧V.cell? ⟨w3.heap.size,6,none⟩=some (.slice ra g.length rc)∧V.cell? ⟨w.heap.size,0,none⟩=some (.int .i64 tl)∧V.cell? ⟨w.heap.size,1,none⟩=some (.bool ta)∧V.cell? ⟨w.heap.size,2,none⟩=some (.slice toa tol.length toc)∧V.cell? ⟨w.heap.size,3,none⟩=some (.int .i64 tp)∧V.cell? ⟨w.heap.size,4,none⟩=some (.int .i64 tq)∧V.cell? ⟨w.heap.size,5,none⟩=some (.int .i64 tr)∧V.cell? ⟨w.heap.size,6,none⟩=some (.slice tra trl.length trc)) V':=fun V V' ⟨a,a0,a1,a2,a3,a4,a5,a6,a7,a8,a9,a10,a11,a12,a13⟩ d=>⟨bel_trans a d,cell_bel d a0,cell_bel d a1,cell_bel d a2,cell_bel d a3,cell_bel d a4,cell_bel d a5,cell_bel d a6,cell_bel d a7,cell_bel d a8,cell_bel d a9,cell_bel d a10,cell_bel d a11,cell_bel d a12,cell_bel d a13⟩
  go_wp2_with fail
  go_region_held3 (fun V=>Below w6.heap.size w6 V∧V.cell? ⟨w3.heap.size,0,none⟩=some (.int .i64 lv)∧V.cell? ⟨w3.heap.size,1,none⟩=some (.bool ac)∧V.cell? ⟨w3.heap.size,2,none⟩=some (.slice oa o.length oc)∧V.cell? ⟨w3.heap.size,3,none⟩=some (.int .i64 p)∧V.cell? ⟨w3.heap.size,4,none⟩=some (.int .i64 q)∧V.cell? ⟨w3.heap.size,5,none⟩=some (.int .i64 r)∧V.cell? ⟨w3.heap.size,6,none⟩=some (.slice ra g.length rc)∧V.cell? ⟨w.heap.size,0,none⟩=some (.int .i64 tl)∧V.cell? ⟨w.heap.size,1,none⟩=some (.bool ta)∧V.cell? ⟨w.heap.size,2,none⟩=some (.slice toa tol.length toc)∧V.cell? ⟨w.heap.size,3,none⟩=some (.int .i64 tp)∧V.cell? ⟨w.heap.size,4,none⟩=some (.int .i64 tq)∧V.cell? ⟨w.heap.size,5,none⟩=some (.int .i64 tr)∧V.cell? ⟨w.heap.size,6,none⟩=some (.slice tra trl.length trc)) (first | exact S0 | exact keepS _ _ (by assumption) (by assumption)) (first | (go_at_call 15;refine (HA.out _ _ _ _ _ _ _ _ _ (by first | exact .inl rfl | exact .inr rfl) (And.left (by assumption))).mono ?_;rintro e' w' ⟨rfl,b8⟩) | (go_at_call 14;refine (HRO.out _ (And.left (by assumption))).mono ?_;rintro e' w' ⟨rfl,b8⟩))
  rename_i hHeld8
  have s8:=hHeld8.1
  clear S0 keepS hHeld8
  go_wp2_with fail
  go_ret
  exact ⟨rfl,bel_trans B6 s8⟩
 ·rw [decide_eq_false h1] at HF
  obtain ⟨ah,ch,rfl,ih,jh,kh,HCh⟩:=Th.reads
  obtain ⟨n,hn⟩:∃ n,h.length=n:=⟨_,rfl⟩
  rw [hn] at HF ⊢
  clear hn To0 Tr0
  have X_t:=SBox.new w 28 #[.int .i64 tl,.bool ta,.slice toa tol.length toc,.int .i64 tp,.int .i64 tq,.int .i64 tr,.slice tra trl.length trc]
  have B_t:=Below.alloc (Below.refl w.heap.size w) (Below.size (Below.refl w.heap.size w)) (.cells #[.int .i64 tl,.bool ta,.slice toa tol.length toc,.int .i64 tp,.int .i64 tq,.int .i64 tr,.slice tra trl.length trc] 28)
  go_enter Tryz.func3,Tryz.ntmps3
  have f_t0_0:=X_t.cell 0 _ rfl
  have f_t1_0:=X_t.cell 1 _ rfl
  have f_t2_0:=X_t.cell 2 _ rfl
  have f_t3_0:=X_t.cell 3 _ rfl
  have f_t4_0:=X_t.cell 4 _ rfl
  have f_t5_0:=X_t.cell 5 _ rfl
  have f_t6_0:=X_t.cell 6 _ rfl
  go_wp2_with fail
  refine (HSh.out _ B_t).mono ?_
  rintro e w1 ⟨rfl,b1⟩
  have B1:=bel_trans B_t b1
  clear f_t0_0 f_t1_0 f_t2_0 f_t3_0 f_t4_0 f_t5_0 f_t6_0
  replace X_t:=X_t.below b1
  have f_t0_1:=X_t.cell 0 _ rfl
  have f_t1_1:=X_t.cell 1 _ rfl
  have f_t2_1:=X_t.cell 2 _ rfl
  have f_t3_1:=X_t.cell 3 _ rfl
  have f_t4_1:=X_t.cell 4 _ rfl
  have f_t5_1:=X_t.cell 5 _ rfl
  have f_t6_1:=X_t.cell 6 _ rfl
  go_wp2_with fail
  refine (HF.out _ B1).mono ?_
  rintro e w2 ⟨rfl,b2⟩
  have B2:=bel_trans B1 b2
  clear f_t0_1 f_t1_1 f_t2_1 f_t3_1 f_t4_1 f_t5_1 f_t6_1
  replace X_t:=X_t.below b2
  have f_t0_2:=X_t.cell 0 _ rfl
  have f_t1_2:=X_t.cell 1 _ rfl
  have f_t2_2:=X_t.cell 2 _ rfl
  have f_t3_2:=X_t.cell 3 _ rfl
  have f_t4_2:=X_t.cell 4 _ rfl
  have f_t5_2:=X_t.cell 5 _ rfl
  have f_t6_2:=X_t.cell 6 _ rfl
  go_wp2_with fail
  go_ret
  exact ⟨rfl,B2⟩
end Go.Proofs.YtiihegldhnlleaaGreat
