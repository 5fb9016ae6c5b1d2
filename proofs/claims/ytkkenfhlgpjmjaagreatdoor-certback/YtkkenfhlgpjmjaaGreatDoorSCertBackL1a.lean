/-
  The walk of CertApart. The walk of CertBack.
-/
import Derived.Test.YtkkenfhlgpjmjaaGreatDoorCL1b
import Derived.Test.YtkkenfhlgpjmjaaGreatDoorSCertBackR14Same
namespace Go.Proofs.YtkkenfhlgpjmjaaGreatDoor
set_option maxRecDepth 100000
open Go.RowKit
set_option linter.unusedVariables false
attribute [local go_sem] ba_size ba_append ba_extract
theorem bytesC_yes (c:Ct) (h:mayC c):bytesC c=(bytC c,0):=by unfold bytesC;rw [if_pos h]
theorem bytesC_no (c:Ct) (h:¬ mayC c):bytesC c=([],1):=by unfold bytesC;rw [if_neg h]
theorem take14_no (s:List UInt8) (h:takeC14 s=none):takeR14 s=(zCt,3):=by unfold takeR14;rw [h]
theorem take14_yes (s:List UInt8) (c:Ct) (h:takeC14 s=some c):takeR14 s=(c,0):=by unfold takeR14;rw [h]
set_option maxHeartbeats 4000000 in
theorem back14_walk (C:P14C) (w:World) (hGl:G w) (cx:Ct) (vox vrx vpx:Value) (Ax:CtAt w cx vox vrx vpx) (cut:Int) :
 Calls Tryz.prog 5 #[.agg (ctC cx vox vrx vpx),.int .i64 cut] w fun e w'=>e=.returned (.bool true)∧Below w.heap.size w w':=by
 have HSh:=Lib.hid (fun W (hb:Below w.heap.size w W)=>shown14_any C W (hGl.below hb hGl.size))
 have CX:=Lib.hid (fun W (hb:Below w.heap.size w W)=>C.bytes cx vox vrx vpx W (Ax.below hb))
 have CM:=Lib.hid (fun W (hb:Below w.heap.size w W)=>C.may cx vox vrx vpx W (Ax.below hb))
 have CS:=Lib.hid (fun W (hb:Below w.heap.size w W) vo vr vp (h:CtAt W cx vo vr vp)=>rsame14_any cx cx vox vrx vpx vo vr vp W (Ax.below hb) h)
 have CT:=Lib.hid (fun s (hs:s.length≤140737488351232) W=>C.take s W hs)
 by_cases hm:mayC cx
 ·rw [bytesC_yes cx hm] at CX
  rw [(sameC_iff cx cx).2 rfl] at CS
  have hl:=bytC_few14 cx hm
  have T1:=fun W=>CT.out (bytC cx) (by omega) W
  have T2:=fun W=>CT.out (bytC cx++[48]) (by simp;omega) W
  have T3:=fun (k:Nat) W=>CT.out ((bytC cx).take k) (by simp;omega) W
  rw [take14_yes _ _ (take14_back cx hm)] at T1
  rw [take14_no _ (take14_more cx hm [48] (by simp))] at T2
  have HT3:Hid (∀ (k:Nat),k < (bytC cx).length→takeR14 ((bytC cx).take k)=(zCt,3)):=fun k hk=>take14_no _ (take14_cut cx hm k hk)
  obtain ⟨bx,hbx⟩:∃ y,bytC cx=y:=⟨_,rfl⟩
  rw [hbx] at CX T1 T2 T3 HT3 hl
  have he:(⟨bx.toArray⟩:ByteArray)++⟨#[48]⟩=⟨(bx++[48]).toArray⟩:=ba_append bx [48]
  simp only at CX
  clear hbx CM CT hm
  obtain ⟨oax,ocx,rfl,_,_,_,_⟩:=Ax.order.some_at
  obtain ⟨rax,rcx,rfl,_,_,_,_⟩:=Ax.ring.some_at
  obtain ⟨pax,pcx,rfl,_,_,_⟩:=Ax.proofs.len
  obtain ⟨tx,sqx,pvx,rtx,ctx,⟨lvx,acx,ox,⟨k0x,k1x,k2x⟩,gx⟩,qx⟩:=cx
  obtain ⟨nox,hnox⟩:∃ m,ox.length=m:=⟨_,rfl⟩
  obtain ⟨ngx,hngx⟩:∃ m,gx.length=m:=⟨_,rfl⟩
  obtain ⟨nqx,hnqx⟩:∃ m,qx.length=m:=⟨_,rfl⟩
  have HCS:Hid (∀ W (hb:Below w.heap.size w W) ao2 co2 ar2 cr2 ap2 cp2,CtAt W (tx,sqx,pvx,rtx,ctx,(lvx,acx,ox,(k0x,k1x,k2x),gx),qx) (.slice ao2 nox co2) (.slice ar2 ngx cr2) (.slice ap2 nqx cp2)→Calls Tryz.prog 14 #[.agg #[.string ⟨tx.toArray⟩,.int .i64 sqx,.string ⟨pvx.toArray⟩,.string ⟨rtx.toArray⟩,.int .i64 ctx,.int .i64 lvx,.bool acx,.slice oax nox ocx,.int .i64 k0x,.int .i64 k1x,.int .i64 k2x,.slice rax ngx rcx,.slice pax nqx pcx],.agg #[.string ⟨tx.toArray⟩,.int .i64 sqx,.string ⟨pvx.toArray⟩,.string ⟨rtx.toArray⟩,.int .i64 ctx,.int .i64 lvx,.bool acx,.slice ao2 nox co2,.int .i64 k0x,.int .i64 k1x,.int .i64 k2x,.slice ar2 ngx cr2,.slice ap2 nqx cp2]] W fun e w'=>e=.returned (.bool true)∧Below W.heap.size W w'):=fun W hb _ _ _ _ _ _ h=>by
   have:=CS.out W hb _ _ _ h
   simp only [hnox,hngx,hnqx] at this
   exact this
  have HL:Hid (ox.length=nox∧gx.length=ngx∧qx.length=nqx):=⟨hnox,hngx,hnqx⟩
  simp only [hnox,hngx,hnqx] at CX ⊢
  clear Ax hnox hngx hnqx CS
  have X0:=SBox.new w 35 #[.string ⟨tx.toArray⟩,.int .i64 sqx,.string ⟨pvx.toArray⟩,.string ⟨rtx.toArray⟩,.int .i64 ctx,.int .i64 lvx,.bool acx,.slice oax nox ocx,.int .i64 k0x,.int .i64 k1x,.int .i64 k2x,.slice rax ngx rcx,.slice pax nqx pcx]
  have B0:=(Below.refl w.heap.size w).alloc (Nat.le_refl _) (.cells #[.string ⟨tx.toArray⟩,.int .i64 sqx,.string ⟨pvx.toArray⟩,.string ⟨rtx.toArray⟩,.int .i64 ctx,.int .i64 lvx,.bool acx,.slice oax nox ocx,.int .i64 k0x,.int .i64 k1x,.int .i64 k2x,.slice rax ngx rcx,.slice pax nqx pcx] 35)
  generalize hW0:w.alloc (.cells #[.string ⟨tx.toArray⟩,.int .i64 sqx,.string ⟨pvx.toArray⟩,.string ⟨rtx.toArray⟩,.int .i64 ctx,.int .i64 lvx,.bool acx,.slice oax nox ocx,.int .i64 k0x,.int .i64 k1x,.int .i64 k2x,.slice rax ngx rcx,.slice pax nqx pcx] 35)=W0 at X0 B0
  go_enter Tryz.func5,Tryz.ntmps5
  go_upto_region 1 with fail
  (try rw [hW0])
  clear hW0
  go_wp2_with fail
  refine (HSh.out _ B0).mono ?_
  rintro e w1 ⟨rfl,b1⟩
  have B1:=bel_trans B0 b1
  have X1:=X0.below b1
  clear X0 B0 b1
  have c0:=X1.cell 0 _ rfl
  have c1:=X1.cell 1 _ rfl
  have c2:=X1.cell 2 _ rfl
  have c3:=X1.cell 3 _ rfl
  have c4:=X1.cell 4 _ rfl
  have c5:=X1.cell 5 _ rfl
  have c6:=X1.cell 6 _ rfl
  have c7:=X1.cell 7 _ rfl
  have c8:=X1.cell 8 _ rfl
  have c9:=X1.cell 9 _ rfl
  have c10:=X1.cell 10 _ rfl
  have c11:=X1.cell 11 _ rfl
  have c12:=X1.cell 12 _ rfl
  go_wp2_with fail
  refine (CX.out _ B1).mono ?_
  rintro e w2 ⟨rfl,b2⟩
  have B2:=bel_trans B1 b2
  have X2:=X1.below b2
  clear c0 c1 c2 c3 c4 c5 c6 c7 c8 c9 c10 c11 c12
  clear X1 B1 b2
  go_wp2_with fail
  refine (T1 _).mono ?_
  rintro e w3 ⟨vo3,vr3,vp3,rfl,b3,A3⟩
  obtain ⟨ao2,co2,rfl,_⟩:=A3.order.some_at
  obtain ⟨ar2,cr2,rfl,_⟩:=A3.ring.some_at
  obtain ⟨ap2,cp2,rfl,_⟩:=A3.proofs.len
  simp only [HL.out.1,HL.out.2.1,HL.out.2.2] at A3 ⊢
  have B3:=bel_trans B2 b3
  have X3:=X2.below b3
  have b4:=(Below.refl w3.heap.size w3).alloc (Nat.le_refl _) (.cells #[.string ⟨tx.toArray⟩,.int .i64 sqx,.string ⟨pvx.toArray⟩,.string ⟨rtx.toArray⟩,.int .i64 ctx,.int .i64 lvx,.bool acx,.slice ao2 nox co2,.int .i64 k0x,.int .i64 k1x,.int .i64 k2x,.slice ar2 ngx cr2,.slice ap2 nqx cp2] 35)
  have Y4:=SBox.new w3 35 #[.string ⟨tx.toArray⟩,.int .i64 sqx,.string ⟨pvx.toArray⟩,.string ⟨rtx.toArray⟩,.int .i64 ctx,.int .i64 lvx,.bool acx,.slice ao2 nox co2,.int .i64 k0x,.int .i64 k1x,.int .i64 k2x,.slice ar2 ngx cr2,.slice ap2 nqx cp2]
  have B4:=bel_trans B3 b4
  have X4:=X3.below b4
  have CS4:=HCS.out _ B4 _ _ _ _ _ _ (A3.below b4)
  clear X2 X3 B2 B3 b3 A3 b4
  have c0:=X4.cell 0 _ rfl
  have c1:=X4.cell 1 _ rfl
  have c2:=X4.cell 2 _ rfl
  have c3:=X4.cell 3 _ rfl
  have c4:=X4.cell 4 _ rfl
  have c5:=X4.cell 5 _ rfl
  have c6:=X4.cell 6 _ rfl
  have c7:=X4.cell 7 _ rfl
  have c8:=X4.cell 8 _ rfl
  have c9:=X4.cell 9 _ rfl
  have c10:=X4.cell 10 _ rfl
  have c11:=X4.cell 11 _ rfl
  have c12:=X4.cell 12 _ rfl
  have d0:=Y4.cell 0 _ rfl
  have d1:=Y4.cell 1 _ rfl
  have d2:=Y4.cell 2 _ rfl
  have d3:=Y4.cell 3 _ rfl
  have d4:=Y4.cell 4 _ rfl
  have d5:=Y4.cell 5 _ rfl
  have d6:=Y4.cell 6 _ rfl
  have d7:=Y4.cell 7 _ rfl
  have d8:=Y4.cell 8 _ rfl
  have d9:=Y4.cell 9 _ rfl
  have d10:=Y4.cell 10 _ rfl
  have d11:=Y4.cell 11 _ rfl
  have d12:=Y4.cell 12 _ rfl
  go_wp2_with fail
  refine CS4.mono ?_
  rintro e w5 ⟨rfl,b5⟩
  have B5:=bel_trans B4 b5
  clear c0 c1 c2 c3 c4 c5 c6 c7 c8 c9 c10 c11 c12
  clear d0 d1 d2 d3 d4 d5 d6 d7 d8 d9 d10 d11 d12
  clear X4 Y4 B4 b5 CS4
  go_wp2_with fail
  refine (T2 _).mono ?_
  rintro e w6 ⟨vo6,vr6,vp6,rfl,b6,A6⟩
  obtain ⟨ao6,co6,rfl,_⟩:=A6.order.some_at
  obtain ⟨ar6,cr6,rfl,_⟩:=A6.ring.some_at
  obtain ⟨ap6,cp6,rfl,_⟩:=A6.proofs.len
  have B6:=bel_trans B5 b6
  simp only [zCt,zV,List.length_nil] at ⊢
  have B7:=B6.alloc B6.size (.cells #[.string ⟨#[]⟩,.int .i64 0,.string ⟨#[]⟩,.string ⟨#[]⟩,.int .i64 0,.int .i64 0,.bool false,.slice ao6 0 co6,.int .i64 0,.int .i64 0,.int .i64 0,.slice ar6 0 cr6,.slice ap6 0 cp6] 35)
  clear A6 b6 B5
  by_cases d1:cut < 0
  ·have HB7:=Lib.hid B7
   go_wp2_with fail
   go_ret
   exact ⟨rfl,HB7.out⟩
  ·obtain ⟨k,rfl⟩:∃ k:Nat,cut=(k:Int):=⟨cut.toNat,by omega⟩
   by_cases d2:bx.length≤k
   ·have d3:(bx.length:Int)≤(k:Int):=by omega
    have HB7:=Lib.hid B7
    go_wp2_with fail
    go_ret
    exact ⟨rfl,HB7.out⟩
   ·have d3:¬ (bx.length:Int)≤(k:Int):=by omega
    have T4:=T3 k
    rw [HT3.out k (by omega)] at T4
    have d4:(k:Int)≤(bx.length:Int):=by omega
    have d5:k≤bx.length:=by omega
    go_wp2_with fail
    refine (T4 _).mono ?_
    rintro e w8 ⟨vo8,vr8,vp8,rfl,b8,A8⟩
    obtain ⟨ao8,co8,rfl,_⟩:=A8.order.some_at
    obtain ⟨ar8,cr8,rfl,_⟩:=A8.ring.some_at
    obtain ⟨ap8,cp8,rfl,_⟩:=A8.proofs.len
    have B8:=bel_trans B7 b8
    simp only [zCt,zV,List.length_nil] at ⊢
    have B9:=B8.alloc B8.size (.cells #[.string ⟨#[]⟩,.int .i64 0,.string ⟨#[]⟩,.string ⟨#[]⟩,.int .i64 0,.int .i64 0,.bool false,.slice ao8 0 co8,.int .i64 0,.int .i64 0,.int .i64 0,.slice ar8 0 cr8,.slice ap8 0 cp8] 35)
    have HB9:=Lib.hid B9
    go_wp2_with fail
    go_ret
    exact ⟨rfl,HB9.out⟩
 ·rw [bytesC_no cx hm] at CX
  rw [decide_eq_false hm] at CM
  simp only at CX
  obtain ⟨oax,ocx,rfl,_,_,_,_⟩:=Ax.order.some_at
  obtain ⟨rax,rcx,rfl,_,_,_,_⟩:=Ax.ring.some_at
  obtain ⟨pax,pcx,rfl,_,_,_⟩:=Ax.proofs.len
  obtain ⟨tx,sqx,pvx,rtx,ctx,⟨lvx,acx,ox,⟨k0x,k1x,k2x⟩,gx⟩,qx⟩:=cx
  obtain ⟨nox,hnox⟩:∃ m,ox.length=m:=⟨_,rfl⟩
  obtain ⟨ngx,hngx⟩:∃ m,gx.length=m:=⟨_,rfl⟩
  obtain ⟨nqx,hnqx⟩:∃ m,qx.length=m:=⟨_,rfl⟩
  simp only [hnox,hngx,hnqx] at CX CM ⊢
  clear Ax hnox hngx hnqx CS CT hm
  have X0:=SBox.new w 35 #[.string ⟨tx.toArray⟩,.int .i64 sqx,.string ⟨pvx.toArray⟩,.string ⟨rtx.toArray⟩,.int .i64 ctx,.int .i64 lvx,.bool acx,.slice oax nox ocx,.int .i64 k0x,.int .i64 k1x,.int .i64 k2x,.slice rax ngx rcx,.slice pax nqx pcx]
  have B0:=(Below.refl w.heap.size w).alloc (Nat.le_refl _) (.cells #[.string ⟨tx.toArray⟩,.int .i64 sqx,.string ⟨pvx.toArray⟩,.string ⟨rtx.toArray⟩,.int .i64 ctx,.int .i64 lvx,.bool acx,.slice oax nox ocx,.int .i64 k0x,.int .i64 k1x,.int .i64 k2x,.slice rax ngx rcx,.slice pax nqx pcx] 35)
  generalize hW0:w.alloc (.cells #[.string ⟨tx.toArray⟩,.int .i64 sqx,.string ⟨pvx.toArray⟩,.string ⟨rtx.toArray⟩,.int .i64 ctx,.int .i64 lvx,.bool acx,.slice oax nox ocx,.int .i64 k0x,.int .i64 k1x,.int .i64 k2x,.slice rax ngx rcx,.slice pax nqx pcx] 35)=W0 at X0 B0
  go_enter Tryz.func5,Tryz.ntmps5
  go_upto_region 1 with fail
  (try rw [hW0])
  clear hW0
  go_wp2_with fail
  refine (HSh.out _ B0).mono ?_
  rintro e w1 ⟨rfl,b1⟩
  have B1:=bel_trans B0 b1
  have X1:=X0.below b1
  clear X0 B0 b1
  have c0:=X1.cell 0 _ rfl
  have c1:=X1.cell 1 _ rfl
  have c2:=X1.cell 2 _ rfl
  have c3:=X1.cell 3 _ rfl
  have c4:=X1.cell 4 _ rfl
  have c5:=X1.cell 5 _ rfl
  have c6:=X1.cell 6 _ rfl
  have c7:=X1.cell 7 _ rfl
  have c8:=X1.cell 8 _ rfl
  have c9:=X1.cell 9 _ rfl
  have c10:=X1.cell 10 _ rfl
  have c11:=X1.cell 11 _ rfl
  have c12:=X1.cell 12 _ rfl
  go_wp2_with fail
  refine (CX.out _ B1).mono ?_
  rintro e w2 ⟨rfl,b2⟩
  have B2:=bel_trans B1 b2
  have X2:=X1.below b2
  clear c0 c1 c2 c3 c4 c5 c6 c7 c8 c9 c10 c11 c12
  clear X1 B1 b2
  have d0:=X2.cell 0 _ rfl
  have d1:=X2.cell 1 _ rfl
  have d2:=X2.cell 2 _ rfl
  have d3:=X2.cell 3 _ rfl
  have d4:=X2.cell 4 _ rfl
  have d5:=X2.cell 5 _ rfl
  have d6:=X2.cell 6 _ rfl
  have d7:=X2.cell 7 _ rfl
  have d8:=X2.cell 8 _ rfl
  have d9:=X2.cell 9 _ rfl
  have d10:=X2.cell 10 _ rfl
  have d11:=X2.cell 11 _ rfl
  have d12:=X2.cell 12 _ rfl
  go_wp2_with fail
  refine (CM.out _ B2).mono ?_
  rintro e w3 ⟨rfl,b3⟩
  go_wp2_with fail
  go_ret
  exact ⟨rfl,bel_trans B2 b3⟩
end Go.Proofs.YtkkenfhlgpjmjaaGreatDoor
