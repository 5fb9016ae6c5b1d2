/-
  The walk of LeanTells.
-/
import Derived.Test.YthamoeekiglphaaGreatDoorCShown15
import Derived.Test.YthamoeekiglphaaGreatDoorSLeanTellsR15Chk
namespace Go.Proofs.YthamoeekiglphaaGreatDoor
set_option maxRecDepth 100000
open Go.RowKit
set_option linter.unusedVariables false
attribute [local go_sem] ba_size farW_cell
set_option maxHeartbeats 8000000 in
theorem tells15_walk (C:P15C) (w:World) (hGl:G w) (tx:List UInt8) (sq:Int) (pv rt:List UInt8) (ct lv k0 k1 k2:Int) (ac:Bool) (oa:Option Addr) (oc:Nat) (o:List Int) (ra:Option Addr) (rc:Nat) (g:List Ed) (pa:Option Addr) (pc:Nat) (q:List Pf) (hO:IsInts w (.slice oa o.length oc) o) (hR:IsEds w (.slice ra g.length rc) g) (hP:IsPfs w (.slice pa q.length pc) q) (root:List UInt8) (b0 b1 b2 e0 e1 e2 e3 e4:Int) :
 Calls Tryz.prog 3 #[.agg #[.string ⟨tx.toArray⟩,.int .i64 sq,.string ⟨pv.toArray⟩,.string ⟨rt.toArray⟩,.int .i64 ct,.int .i64 lv,.bool ac,.slice oa o.length oc,.int .i64 k0,.int .i64 k1,.int .i64 k2,.slice ra g.length rc,.slice pa q.length pc,.string ⟨root.toArray⟩,.int .i64 b0,.int .i64 b1,.int .i64 b2,.int .i64 e0,.int .i64 e1,.int .i64 e2,.int .i64 e3,.int .i64 e4]] w fun e w'=>e=.returned (.bool true)∧Below w.heap.size w w':=by
 have hg3:=hGl.size
 have hA:CtAt w (tx,sq,pv,rt,ct,(lv,ac,o,(k0,k1,k2),g),q) (.slice oa o.length oc) (.slice ra g.length rc) (.slice pa q.length pc):=⟨hO,hR,hP⟩
 have HSh:=Lib.hid (fun W (hb:Below w.heap.size w W)=>shown15_any C W (hGl.below hb hg3))
 have P1:=fun W (hb:Below w.heap.size w W)=>C.proved (tx,sq,pv,rt,ct,(lv,ac,o,(k0,k1,k2),g),q) _ _ _ root W (hGl.below hb hg3) (hA.below hb)
 have P2:=fun W (hb:Below w.heap.size w W)=>rproved15 tx sq pv rt ct lv k0 k1 k2 ac oa oc o ra rc g pa pc q root W (hO.below hb) (hR.below hb) (hP.below hb)
 have P3:=fun W (hb:Below w.heap.size w W)=>C.check (tx,sq,pv,rt,ct,(lv,ac,o,(k0,k1,k2),g),q) _ _ _ root W (hGl.below hb hg3) (hA.below hb)
 have P4:=fun W (hb:Below w.heap.size w W)=>rcheck15 tx sq pv rt ct lv k0 k1 k2 ac oa oc o ra rc g pa pc q root W (hO.below hb) (hR.below hb) (hP.below hb)
 have P5:=fun W (hb:Below w.heap.size w W)=>C.bad q _ (b0,b1,b2) W (hP.below hb)
 have P6:=fun W (hb:Below w.heap.size w W)=>rbad15_any q _ W (hP.below hb) b0 b1 b2
 have P7:=fun W (hb:Below w.heap.size w W)=>C.edge q _ (e0,e1,e2,e3,e4) W (hP.below hb)
 have P8:=fun W (hb:Below w.heap.size w W)=>redge15_any q _ W (hP.below hb) e0 e1 e2 e3 e4
 obtain ⟨pr,hpr⟩:∃ z,provL sumL (tx,sq,pv,rt,ct,(lv,ac,o,(k0,k1,k2),g),q) root=z:=⟨_,rfl⟩
 obtain ⟨le,hle⟩:∃ z,leanL sumL (tx,sq,pv,rt,ct,(lv,ac,o,(k0,k1,k2),g),q) root=z:=⟨_,rfl⟩
 obtain ⟨bb,hbb⟩:∃ z,badB q (b0,b1,b2)=z:=⟨_,rfl⟩
 obtain ⟨eb,heb⟩:∃ z,edgeB q (e0,e1,e2,e3,e4)=z:=⟨_,rfl⟩
 obtain ⟨no,hno⟩:∃ m,o.length=m:=⟨_,rfl⟩
 obtain ⟨ng,hng⟩:∃ m,g.length=m:=⟨_,rfl⟩
 obtain ⟨nq,hnq⟩:∃ m,q.length=m:=⟨_,rfl⟩
 rw [hpr] at P1 P2
 rw [hle] at P3 P4
 rw [hbb] at P5 P6
 rw [heb] at P7 P8
 simp only [hno,hng,hnq] at P1 P2 P3 P4 P5 P6 P7 P8 ⊢
 have Q1:=Lib.hid P1
 have Q2:=Lib.hid P2
 have Q3:=Lib.hid P3
 have Q4:=Lib.hid P4
 have Q5:=Lib.hid P5
 have Q6:=Lib.hid P6
 have Q7:=Lib.hid P7
 have Q8:=Lib.hid P8
 have X0:=SBox.new w 34 #[.string ⟨tx.toArray⟩,.int .i64 sq,.string ⟨pv.toArray⟩,.string ⟨rt.toArray⟩,.int .i64 ct,.int .i64 lv,.bool ac,.slice oa no oc,.int .i64 k0,.int .i64 k1,.int .i64 k2,.slice ra ng rc,.slice pa nq pc,.string ⟨root.toArray⟩,.int .i64 b0,.int .i64 b1,.int .i64 b2,.int .i64 e0,.int .i64 e1,.int .i64 e2,.int .i64 e3,.int .i64 e4]
 have B0:=(Below.refl w.heap.size w).alloc (Nat.le_refl _) (.cells #[.string ⟨tx.toArray⟩,.int .i64 sq,.string ⟨pv.toArray⟩,.string ⟨rt.toArray⟩,.int .i64 ct,.int .i64 lv,.bool ac,.slice oa no oc,.int .i64 k0,.int .i64 k1,.int .i64 k2,.slice ra ng rc,.slice pa nq pc,.string ⟨root.toArray⟩,.int .i64 b0,.int .i64 b1,.int .i64 b2,.int .i64 e0,.int .i64 e1,.int .i64 e2,.int .i64 e3,.int .i64 e4] 34)
 have B1:=B0.alloc (by simp) (.cells #[.string ⟨tx.toArray⟩,.int .i64 sq,.string ⟨pv.toArray⟩,.string ⟨rt.toArray⟩,.int .i64 ct,.int .i64 lv,.bool ac,.slice oa no oc,.int .i64 k0,.int .i64 k1,.int .i64 k2,.slice ra ng rc,.slice pa nq pc] 30)
 have B2:=B1.alloc (by simp;omega) (.cells #[.int .i64 b0,.int .i64 b1,.int .i64 b2] 24)
 have B3':=B2.alloc (by simp;omega) (.cells #[.int .i64 e0,.int .i64 e1,.int .i64 e2,.int .i64 e3,.int .i64 e4] 32)
 have Y3:SBox ((((w.alloc (.cells #[.string ⟨tx.toArray⟩,.int .i64 sq,.string ⟨pv.toArray⟩,.string ⟨rt.toArray⟩,.int .i64 ct,.int .i64 lv,.bool ac,.slice oa no oc,.int .i64 k0,.int .i64 k1,.int .i64 k2,.slice ra ng rc,.slice pa nq pc,.string ⟨root.toArray⟩,.int .i64 b0,.int .i64 b1,.int .i64 b2,.int .i64 e0,.int .i64 e1,.int .i64 e2,.int .i64 e3,.int .i64 e4] 34)).alloc (.cells #[.string ⟨tx.toArray⟩,.int .i64 sq,.string ⟨pv.toArray⟩,.string ⟨rt.toArray⟩,.int .i64 ct,.int .i64 lv,.bool ac,.slice oa no oc,.int .i64 k0,.int .i64 k1,.int .i64 k2,.slice ra ng rc,.slice pa nq pc] 30)).alloc (.cells #[.int .i64 b0,.int .i64 b1,.int .i64 b2] 24)).alloc (.cells #[.int .i64 e0,.int .i64 e1,.int .i64 e2,.int .i64 e3,.int .i64 e4] 32)) (w.heap.size+1) 30 #[.string ⟨tx.toArray⟩,.int .i64 sq,.string ⟨pv.toArray⟩,.string ⟨rt.toArray⟩,.int .i64 ct,.int .i64 lv,.bool ac,.slice oa no oc,.int .i64 k0,.int .i64 k1,.int .i64 k2,.slice ra ng rc,.slice pa nq pc]:=by have:=((SBox.new (w.alloc (.cells #[.string ⟨tx.toArray⟩,.int .i64 sq,.string ⟨pv.toArray⟩,.string ⟨rt.toArray⟩,.int .i64 ct,.int .i64 lv,.bool ac,.slice oa no oc,.int .i64 k0,.int .i64 k1,.int .i64 k2,.slice ra ng rc,.slice pa nq pc,.string ⟨root.toArray⟩,.int .i64 b0,.int .i64 b1,.int .i64 b2,.int .i64 e0,.int .i64 e1,.int .i64 e2,.int .i64 e3,.int .i64 e4] 34)) 30 #[.string ⟨tx.toArray⟩,.int .i64 sq,.string ⟨pv.toArray⟩,.string ⟨rt.toArray⟩,.int .i64 ct,.int .i64 lv,.bool ac,.slice oa no oc,.int .i64 k0,.int .i64 k1,.int .i64 k2,.slice ra ng rc,.slice pa nq pc]).alloc (.cells #[.int .i64 b0,.int .i64 b1,.int .i64 b2] 24)).alloc (.cells #[.int .i64 e0,.int .i64 e1,.int .i64 e2,.int .i64 e3,.int .i64 e4] 32);rw [World.size_alloc] at this;exact this
 have Y5:SBox ((((w.alloc (.cells #[.string ⟨tx.toArray⟩,.int .i64 sq,.string ⟨pv.toArray⟩,.string ⟨rt.toArray⟩,.int .i64 ct,.int .i64 lv,.bool ac,.slice oa no oc,.int .i64 k0,.int .i64 k1,.int .i64 k2,.slice ra ng rc,.slice pa nq pc,.string ⟨root.toArray⟩,.int .i64 b0,.int .i64 b1,.int .i64 b2,.int .i64 e0,.int .i64 e1,.int .i64 e2,.int .i64 e3,.int .i64 e4] 34)).alloc (.cells #[.string ⟨tx.toArray⟩,.int .i64 sq,.string ⟨pv.toArray⟩,.string ⟨rt.toArray⟩,.int .i64 ct,.int .i64 lv,.bool ac,.slice oa no oc,.int .i64 k0,.int .i64 k1,.int .i64 k2,.slice ra ng rc,.slice pa nq pc] 30)).alloc (.cells #[.int .i64 b0,.int .i64 b1,.int .i64 b2] 24)).alloc (.cells #[.int .i64 e0,.int .i64 e1,.int .i64 e2,.int .i64 e3,.int .i64 e4] 32)) (w.heap.size+1+1) 24 #[.int .i64 b0,.int .i64 b1,.int .i64 b2]:=by have:=(SBox.new ((w.alloc (.cells #[.string ⟨tx.toArray⟩,.int .i64 sq,.string ⟨pv.toArray⟩,.string ⟨rt.toArray⟩,.int .i64 ct,.int .i64 lv,.bool ac,.slice oa no oc,.int .i64 k0,.int .i64 k1,.int .i64 k2,.slice ra ng rc,.slice pa nq pc,.string ⟨root.toArray⟩,.int .i64 b0,.int .i64 b1,.int .i64 b2,.int .i64 e0,.int .i64 e1,.int .i64 e2,.int .i64 e3,.int .i64 e4] 34)).alloc (.cells #[.string ⟨tx.toArray⟩,.int .i64 sq,.string ⟨pv.toArray⟩,.string ⟨rt.toArray⟩,.int .i64 ct,.int .i64 lv,.bool ac,.slice oa no oc,.int .i64 k0,.int .i64 k1,.int .i64 k2,.slice ra ng rc,.slice pa nq pc] 30)) 24 #[.int .i64 b0,.int .i64 b1,.int .i64 b2]).alloc (.cells #[.int .i64 e0,.int .i64 e1,.int .i64 e2,.int .i64 e3,.int .i64 e4] 32);simp only [World.size_alloc] at this;exact this
 have Y6:SBox ((((w.alloc (.cells #[.string ⟨tx.toArray⟩,.int .i64 sq,.string ⟨pv.toArray⟩,.string ⟨rt.toArray⟩,.int .i64 ct,.int .i64 lv,.bool ac,.slice oa no oc,.int .i64 k0,.int .i64 k1,.int .i64 k2,.slice ra ng rc,.slice pa nq pc,.string ⟨root.toArray⟩,.int .i64 b0,.int .i64 b1,.int .i64 b2,.int .i64 e0,.int .i64 e1,.int .i64 e2,.int .i64 e3,.int .i64 e4] 34)).alloc (.cells #[.string ⟨tx.toArray⟩,.int .i64 sq,.string ⟨pv.toArray⟩,.string ⟨rt.toArray⟩,.int .i64 ct,.int .i64 lv,.bool ac,.slice oa no oc,.int .i64 k0,.int .i64 k1,.int .i64 k2,.slice ra ng rc,.slice pa nq pc] 30)).alloc (.cells #[.int .i64 b0,.int .i64 b1,.int .i64 b2] 24)).alloc (.cells #[.int .i64 e0,.int .i64 e1,.int .i64 e2,.int .i64 e3,.int .i64 e4] 32)) (w.heap.size+1+1+1) 32 #[.int .i64 e0,.int .i64 e1,.int .i64 e2,.int .i64 e3,.int .i64 e4]:=by have:=SBox.new (((w.alloc (.cells #[.string ⟨tx.toArray⟩,.int .i64 sq,.string ⟨pv.toArray⟩,.string ⟨rt.toArray⟩,.int .i64 ct,.int .i64 lv,.bool ac,.slice oa no oc,.int .i64 k0,.int .i64 k1,.int .i64 k2,.slice ra ng rc,.slice pa nq pc,.string ⟨root.toArray⟩,.int .i64 b0,.int .i64 b1,.int .i64 b2,.int .i64 e0,.int .i64 e1,.int .i64 e2,.int .i64 e3,.int .i64 e4] 34)).alloc (.cells #[.string ⟨tx.toArray⟩,.int .i64 sq,.string ⟨pv.toArray⟩,.string ⟨rt.toArray⟩,.int .i64 ct,.int .i64 lv,.bool ac,.slice oa no oc,.int .i64 k0,.int .i64 k1,.int .i64 k2,.slice ra ng rc,.slice pa nq pc] 30)).alloc (.cells #[.int .i64 b0,.int .i64 b1,.int .i64 b2] 24)) 32 #[.int .i64 e0,.int .i64 e1,.int .i64 e2,.int .i64 e3,.int .i64 e4];simp only [World.size_alloc] at this;exact this
 clear hO hR hP hA hpr hle hbb heb hno hng hnq P1 P2 P3 P4 P5 P6 P7 P8 hGl
 have x0:=X0.cell 0 _ rfl
 have x1:=X0.cell 1 _ rfl
 have x2:=X0.cell 2 _ rfl
 have x3:=X0.cell 3 _ rfl
 have x4:=X0.cell 4 _ rfl
 have x5:=X0.cell 5 _ rfl
 have x6:=X0.cell 6 _ rfl
 have x7:=X0.cell 7 _ rfl
 have x8:=X0.cell 8 _ rfl
 have x9:=X0.cell 9 _ rfl
 have x10:=X0.cell 10 _ rfl
 have x11:=X0.cell 11 _ rfl
 have x12:=X0.cell 12 _ rfl
 have x13:=(X0.alloc (.cells #[.string ⟨tx.toArray⟩,.int .i64 sq,.string ⟨pv.toArray⟩,.string ⟨rt.toArray⟩,.int .i64 ct,.int .i64 lv,.bool ac,.slice oa no oc,.int .i64 k0,.int .i64 k1,.int .i64 k2,.slice ra ng rc,.slice pa nq pc] 30)).cell 13 _ rfl
 have x14:=(X0.alloc (.cells #[.string ⟨tx.toArray⟩,.int .i64 sq,.string ⟨pv.toArray⟩,.string ⟨rt.toArray⟩,.int .i64 ct,.int .i64 lv,.bool ac,.slice oa no oc,.int .i64 k0,.int .i64 k1,.int .i64 k2,.slice ra ng rc,.slice pa nq pc] 30)).cell 14 _ rfl
 have x15:=(X0.alloc (.cells #[.string ⟨tx.toArray⟩,.int .i64 sq,.string ⟨pv.toArray⟩,.string ⟨rt.toArray⟩,.int .i64 ct,.int .i64 lv,.bool ac,.slice oa no oc,.int .i64 k0,.int .i64 k1,.int .i64 k2,.slice ra ng rc,.slice pa nq pc] 30)).cell 15 _ rfl
 have x16:=(X0.alloc (.cells #[.string ⟨tx.toArray⟩,.int .i64 sq,.string ⟨pv.toArray⟩,.string ⟨rt.toArray⟩,.int .i64 ct,.int .i64 lv,.bool ac,.slice oa no oc,.int .i64 k0,.int .i64 k1,.int .i64 k2,.slice ra ng rc,.slice pa nq pc] 30)).cell 16 _ rfl
 have x17:=((X0.alloc (.cells #[.string ⟨tx.toArray⟩,.int .i64 sq,.string ⟨pv.toArray⟩,.string ⟨rt.toArray⟩,.int .i64 ct,.int .i64 lv,.bool ac,.slice oa no oc,.int .i64 k0,.int .i64 k1,.int .i64 k2,.slice ra ng rc,.slice pa nq pc] 30)).alloc (.cells #[.int .i64 b0,.int .i64 b1,.int .i64 b2] 24)).cell 17 _ rfl
 have x18:=((X0.alloc (.cells #[.string ⟨tx.toArray⟩,.int .i64 sq,.string ⟨pv.toArray⟩,.string ⟨rt.toArray⟩,.int .i64 ct,.int .i64 lv,.bool ac,.slice oa no oc,.int .i64 k0,.int .i64 k1,.int .i64 k2,.slice ra ng rc,.slice pa nq pc] 30)).alloc (.cells #[.int .i64 b0,.int .i64 b1,.int .i64 b2] 24)).cell 18 _ rfl
 have x19:=((X0.alloc (.cells #[.string ⟨tx.toArray⟩,.int .i64 sq,.string ⟨pv.toArray⟩,.string ⟨rt.toArray⟩,.int .i64 ct,.int .i64 lv,.bool ac,.slice oa no oc,.int .i64 k0,.int .i64 k1,.int .i64 k2,.slice ra ng rc,.slice pa nq pc] 30)).alloc (.cells #[.int .i64 b0,.int .i64 b1,.int .i64 b2] 24)).cell 19 _ rfl
 have x20:=((X0.alloc (.cells #[.string ⟨tx.toArray⟩,.int .i64 sq,.string ⟨pv.toArray⟩,.string ⟨rt.toArray⟩,.int .i64 ct,.int .i64 lv,.bool ac,.slice oa no oc,.int .i64 k0,.int .i64 k1,.int .i64 k2,.slice ra ng rc,.slice pa nq pc] 30)).alloc (.cells #[.int .i64 b0,.int .i64 b1,.int .i64 b2] 24)).cell 20 _ rfl
 have x21:=((X0.alloc (.cells #[.string ⟨tx.toArray⟩,.int .i64 sq,.string ⟨pv.toArray⟩,.string ⟨rt.toArray⟩,.int .i64 ct,.int .i64 lv,.bool ac,.slice oa no oc,.int .i64 k0,.int .i64 k1,.int .i64 k2,.slice ra ng rc,.slice pa nq pc] 30)).alloc (.cells #[.int .i64 b0,.int .i64 b1,.int .i64 b2] 24)).cell 21 _ rfl
 have xr:=X0.cell 13 _ rfl
 clear X0
 go_enter Tryz.func3,Tryz.ntmps3
 go_upto_region 5 with fail
 generalize hW:(((w.alloc (.cells #[.string ⟨tx.toArray⟩,.int .i64 sq,.string ⟨pv.toArray⟩,.string ⟨rt.toArray⟩,.int .i64 ct,.int .i64 lv,.bool ac,.slice oa no oc,.int .i64 k0,.int .i64 k1,.int .i64 k2,.slice ra ng rc,.slice pa nq pc,.string ⟨root.toArray⟩,.int .i64 b0,.int .i64 b1,.int .i64 b2,.int .i64 e0,.int .i64 e1,.int .i64 e2,.int .i64 e3,.int .i64 e4] 34)).alloc (.cells #[.string ⟨tx.toArray⟩,.int .i64 sq,.string ⟨pv.toArray⟩,.string ⟨rt.toArray⟩,.int .i64 ct,.int .i64 lv,.bool ac,.slice oa no oc,.int .i64 k0,.int .i64 k1,.int .i64 k2,.slice ra ng rc,.slice pa nq pc] 30)).alloc (.cells #[.int .i64 b0,.int .i64 b1,.int .i64 b2] 24)).alloc (.cells #[.int .i64 e0,.int .i64 e1,.int .i64 e2,.int .i64 e3,.int .i64 e4] 32)=W0 at B3' Y3 Y5 Y6
 (try rw [hW])
 (try simp only [World.size_alloc])
 clear hW B0 B1 B2 x0 x1 x2 x3 x4 x5 x6 x7 x8 x9 x10 x11 x12 x13 x14 x15 x16 x17 x18 x19 x20 x21 xr
 go_wp2_with fail
 refine (HSh.out _ B3').mono ?_
 rintro e w1 ⟨rfl,c1⟩
 have Bc:=bel_trans B3' c1
 have Z3:=Y3.below c1
 have Z5:=Y5.below c1
 have Z6:=Y6.below c1
 clear B3' Y3 Y5 Y6 c1
 have a12:=Z3.cell 12 _ rfl
 by_cases hq60:nq≤60
 ·have j1:decide ((nq:Int) > 60)=false:=decide_eq_false (by omega)
  have j2:decide (60 < nq)=false:=decide_eq_false (by omega)
  have HZ3:=Lib.hid Z3
  have HZ5:=Lib.hid Z5
  have HZ6:=Lib.hid Z6
  go_upto_region 8 with fail
  clear j1 j2
  clear a12
  have a0:=Z3.cell 0 _ rfl
  have a1:=Z3.cell 1 _ rfl
  have a2:=Z3.cell 2 _ rfl
  have a3:=Z3.cell 3 _ rfl
  have a4:=Z3.cell 4 _ rfl
  have a5:=Z3.cell 5 _ rfl
  have a6:=Z3.cell 6 _ rfl
  have a7:=Z3.cell 7 _ rfl
  have a8:=Z3.cell 8 _ rfl
  have a9:=Z3.cell 9 _ rfl
  have a10:=Z3.cell 10 _ rfl
  have a11:=Z3.cell 11 _ rfl
  have a12:=Z3.cell 12 _ rfl
  have p1:(pr==pr)=true:=beq_self_eq_true _
  have p2:(le==le)=true:=beq_self_eq_true _
  clear Z3 Z5 Z6
  refine region_far (by kernel_rfl) (by kernel_rfl) ?_
  repeat (first | go_big_quiet_skip | (go_big_quiet_want;go_big_quiet_op;first | go_big_quiet_on | go_big_quiet_call (first | (go_at_call 11;exact calls_far (Q1.out _ (bel_trans Bc (farW_bel _ _)))) | (go_at_call 12;exact calls_far (Q2.out _ (bel_trans Bc (farW_bel _ _)))) | (go_at_call 13;exact calls_far (Q3.out _ (bel_trans Bc (farW_bel _ _)))) | (go_at_call 14;exact calls_far (Q4.out _ (bel_trans Bc (farW_bel _ _)))))))
  refine wpQuiet_nil ?_
  rintro w' ⟨U,rfl⟩
  have Be:=bel_trans Bc (farW_bel w1 U)
  have Z3:=HZ3.out.below (farW_bel w1 U)
  have Z5:=HZ5.out.below (farW_bel w1 U)
  have Z6:=HZ6.out.below (farW_bel w1 U)
  generalize farW w1 U=wE at Be Z3 Z5 Z6 ⊢
  clear a0 a1 a2 a3 a4 a5 a6 a7 a8 a9 a10 a11 a12 HZ3 HZ5 HZ6 Bc
  have a12:=Z3.cell 12 _ rfl
  have s0:=Z5.cell 0 _ rfl
  have s1:=Z5.cell 1 _ rfl
  have s2:=Z5.cell 2 _ rfl
  have u0:=Z6.cell 0 _ rfl
  have u1:=Z6.cell 1 _ rfl
  have u2:=Z6.cell 2 _ rfl
  have u3:=Z6.cell 3 _ rfl
  have u4:=Z6.cell 4 _ rfl
  have p3:(bb==bb)=true:=beq_self_eq_true _
  have p4:(eb==eb)=true:=beq_self_eq_true _
  clear Z3 Z5 Z6
  go_upto_region 9 with fail
  refine region_far (by kernel_rfl) (by kernel_rfl) ?_
  repeat (first | go_big_quiet_skip | (go_big_quiet_want;go_big_quiet_op;first | go_big_quiet_on | go_big_quiet_call (first | (go_at_call 15;exact calls_far (Q5.out _ (bel_trans Be (farW_bel _ _)))) | (go_at_call 16;exact calls_far (Q6.out _ (bel_trans Be (farW_bel _ _)))) | (go_at_call 17;exact calls_far (Q7.out _ (bel_trans Be (farW_bel _ _)))) | (go_at_call 18;exact calls_far (Q8.out _ (bel_trans Be (farW_bel _ _)))))))
  refine wpQuiet_nil ?_
  rintro w' ⟨U2,rfl⟩
  have Bf:=bel_trans Be (farW_bel wE U2)
  generalize farW wE U2=wF at Bf ⊢
  go_wp2_with fail
  go_ret
  exact ⟨rfl,Bf⟩
 ·have j1:decide ((nq:Int) > 60)=true:=decide_eq_true (by omega)
  have j2:decide (60 < nq)=true:=decide_eq_true (by omega)
  go_wp2_with fail
  go_ret
  exact ⟨rfl,Bc⟩
theorem tells15_all (C:P15C) (w:World) (hGl:G w) (c:Ct) (vo vr vp:Value) (hA:CtAt w c vo vr vp) (root:List UInt8) (b0 b1 b2 e0 e1 e2 e3 e4:Int) :
 Calls Tryz.prog 3 #[.agg ((ctC c vo vr vp).toList++([.string ⟨root.toArray⟩,.int .i64 b0,.int .i64 b1,.int .i64 b2,.int .i64 e0,.int .i64 e1,.int .i64 e2,.int .i64 e3,.int .i64 e4]:List Value)).toArray] w fun e w'=>e=.returned (.bool true)∧Below w.heap.size w w':=by
 obtain ⟨hO,hR,hP⟩:=hA
 obtain ⟨oa,oc,rfl,_⟩:=hO.some_at
 obtain ⟨ra,rc,rfl,_⟩:=hR.some_at
 obtain ⟨pa,pc,rfl,_⟩:=hP.len
 obtain ⟨tx,sq,pv,rt,ct,⟨lv,ac,o,⟨k0,k1,k2⟩,g⟩,q⟩:=c
 exact tells15_walk C w hGl tx sq pv rt ct lv k0 k1 k2 ac oa oc o ra rc g pa pc q hO hR hP root b0 b1 b2 e0 e1 e2 e3 e4
end Go.Proofs.YthamoeekiglphaaGreatDoor
