/-
  The walk of LeanRoots.
-/
import Derived.Test.YthamoeekiglphaaGreatDoorCShown15
namespace Go.Proofs.YthamoeekiglphaaGreatDoor
set_option maxRecDepth 100000
open Go.RowKit
set_option linter.unusedVariables false
attribute [local go_sem] ba_size
set_option maxHeartbeats 4000000 in
theorem roots15_walk (C:P15C) (w:World) (hGl:G w) (cx:Ct) (vo vr vp:Value) (Ax:CtAt w cx vo vr vp) (root:List UInt8) (hr:root.length≤140737488351232) :
 Calls Tryz.prog 9 #[.agg (ctC cx vo vr vp),.string ⟨root.toArray⟩] w fun e w'=>e=.returned (.bool true)∧Below w.heap.size w w':=by
 have hg3:=hGl.size
 have HSh:=Lib.hid (fun W (hb:Below w.heap.size w W)=>shown15_any C W (hGl.below hb hg3))
 have CK:=Lib.hid (fun W (hb:Below w.heap.size w W)=>C.check cx vo vr vp root W (hGl.below hb hg3) (Ax.below hb))
 have CP:=Lib.hid (fun W (hb:Below w.heap.size w W)=>C.proved cx vo vr vp root W (hGl.below hb hg3) (Ax.below hb))
 have HR:=Lib.hid (roots15 sumL cx root)
 obtain ⟨oa,oc,rfl,_⟩:=Ax.order.some_at
 obtain ⟨ra,rc,rfl,_⟩:=Ax.ring.some_at
 obtain ⟨pa,pc,rfl,_⟩:=Ax.proofs.len
 obtain ⟨tx,sq,pv,rt,ct,⟨lv,ac,o,⟨k0,k1,k2⟩,g⟩,q⟩:=cx
 obtain ⟨le,hle⟩:∃ z,leanL sumL (tx,sq,pv,rt,ct,(lv,ac,o,(k0,k1,k2),g),q) root=z:=⟨_,rfl⟩
 obtain ⟨pr,hpr⟩:∃ z,provL sumL (tx,sq,pv,rt,ct,(lv,ac,o,(k0,k1,k2),g),q) root=z:=⟨_,rfl⟩
 rw [hle] at CK HR
 rw [hpr] at CP HR
 obtain ⟨no,hno⟩:∃ m,o.length=m:=⟨_,rfl⟩
 obtain ⟨ng,hng⟩:∃ m,g.length=m:=⟨_,rfl⟩
 obtain ⟨nq,hnq⟩:∃ m,q.length=m:=⟨_,rfl⟩
 simp only [hno,hng,hnq] at CK CP ⊢
 clear Ax hno hng hnq hle hpr hGl
 have X0:=SBox.new w 30 #[.string ⟨tx.toArray⟩,.int .i64 sq,.string ⟨pv.toArray⟩,.string ⟨rt.toArray⟩,.int .i64 ct,.int .i64 lv,.bool ac,.slice oa no oc,.int .i64 k0,.int .i64 k1,.int .i64 k2,.slice ra ng rc,.slice pa nq pc]
 have B0:=(Below.refl w.heap.size w).alloc (Nat.le_refl _) (.cells #[.string ⟨tx.toArray⟩,.int .i64 sq,.string ⟨pv.toArray⟩,.string ⟨rt.toArray⟩,.int .i64 ct,.int .i64 lv,.bool ac,.slice oa no oc,.int .i64 k0,.int .i64 k1,.int .i64 k2,.slice ra ng rc,.slice pa nq pc] 30)
 generalize hW0:w.alloc (.cells #[.string ⟨tx.toArray⟩,.int .i64 sq,.string ⟨pv.toArray⟩,.string ⟨rt.toArray⟩,.int .i64 ct,.int .i64 lv,.bool ac,.slice oa no oc,.int .i64 k0,.int .i64 k1,.int .i64 k2,.slice ra ng rc,.slice pa nq pc] 30)=W0 at X0 B0
 go_enter Tryz.func9,Tryz.ntmps9
 go_upto_region 1 with fail
 (try rw [hW0])
 clear hW0
 go_wp2_with fail
 refine (HSh.out _ B0).mono ?_
 rintro e w1 ⟨rfl,b1⟩
 have B1:=bel_trans B0 b1
 have X1:=X0.below b1
 clear X0 B0 b1
 have c0:=X1.cell 0 _ rfl
 have c1:=X1.cell 1 _ rfl
 have c2:=X1.cell 2 _ rfl
 have c3:=X1.cell 3 _ rfl
 have c4:=X1.cell 4 _ rfl
 have c5:=X1.cell 5 _ rfl
 have c6:=X1.cell 6 _ rfl
 have c7:=X1.cell 7 _ rfl
 have c8:=X1.cell 8 _ rfl
 have c9:=X1.cell 9 _ rfl
 have c10:=X1.cell 10 _ rfl
 have c11:=X1.cell 11 _ rfl
 have c12:=X1.cell 12 _ rfl
 by_cases hq:nq≤60
 ·have j1:decide ((nq:Int) > 60)=false:=decide_eq_false (by omega)
  have j2:decide (60 < nq)=false:=decide_eq_false (by omega)
  by_cases hrt:root=rt
  ·have e1:(root==rt)=true:=by rw [hrt];exact beq_self_eq_true _
   clear hrt
   go_wp2_with fail
   go_ret
   exact ⟨rfl,B1⟩
  ·have e1:(root==rt)=false:=beq_eq_false_iff_ne.2 hrt
   obtain ⟨h13,hpp⟩:=HR.out hrt
   subst hpp
   have K1:=CK.out _ B1
   clear hrt
   go_upto_region 4 with fail
   go_wp2_with fail
   refine K1.mono ?_
   rintro e w2 ⟨rfl,b2⟩
   have B2:=bel_trans B1 b2
   have X2:=X1.below b2
   have P2:=CP.out _ B2
   clear c0 c1 c2 c3 c4 c5 c6 c7 c8 c9 c10 c11 c12 X1 B1 b2 K1
   have c0:=X2.cell 0 _ rfl
   have c1:=X2.cell 1 _ rfl
   have c2:=X2.cell 2 _ rfl
   have c3:=X2.cell 3 _ rfl
   have c4:=X2.cell 4 _ rfl
   have c5:=X2.cell 5 _ rfl
   have c6:=X2.cell 6 _ rfl
   have c7:=X2.cell 7 _ rfl
   have c8:=X2.cell 8 _ rfl
   have c9:=X2.cell 9 _ rfl
   have c10:=X2.cell 10 _ rfl
   have c11:=X2.cell 11 _ rfl
   have c12:=X2.cell 12 _ rfl
   have hBB:=Lib.hid B2
   rcases h13 with rfl | rfl
   all_goals
    go_wp2_with fail
    refine P2.mono ?_
    rintro e w3 ⟨rfl,b3⟩
    go_wp2_with fail
    go_ret
    exact ⟨rfl,bel_trans hBB.out b3⟩
 ·have j1:decide ((nq:Int) > 60)=true:=decide_eq_true (by omega)
  have j2:decide (60 < nq)=true:=decide_eq_true (by omega)
  go_wp2_with fail
  go_ret
  exact ⟨rfl,B1⟩
end Go.Proofs.YthamoeekiglphaaGreatDoor
