/-
  The walk of CertApart.
-/
import Derived.Test.YtkkenfhlgpjmjaaGreatDoorCL1b
import Derived.Test.YtkkenfhlgpjmjaaGreatDoorSCertApartR14Same
namespace Go.Proofs.YtkkenfhlgpjmjaaGreatDoor
set_option maxRecDepth 100000
open Go.RowKit
set_option linter.unusedVariables false
attribute [local go_sem] ba_size ba_append ba_extract
theorem bytesC_yes (c:Ct) (h:mayC c):bytesC c=(bytC c,0):=by unfold bytesC;rw [if_pos h]
theorem bytesC_no (c:Ct) (h:¬ mayC c):bytesC c=([],1):=by unfold bytesC;rw [if_neg h]
theorem apart14_said (a b:Ct):¬ ((bytesC a).2=0∧(bytesC b).2=0∧(decide ((bytesC a).1=(bytesC b).1) != sameC a b)=true):=by
 rintro ⟨h1,h2,h3⟩
 by_cases ha:mayC a
 ·by_cases hb:mayC b
  ·rw [bytesC_yes a ha,bytesC_yes b hb] at h3
   simp only at h3
   by_cases e:a=b
   ·subst e
    rw [(sameC_iff a a).2 rfl] at h3
    simp at h3
   ·have s1:sameC a b=false:=by
     cases hs:sameC a b with
     | false=>rfl
     | true=>exact absurd ((sameC_iff a b).1 hs) e
    rw [s1,decide_eq_false (fun h=>e (byt14_inj a b ha hb h))] at h3
    simp at h3
  ·rw [bytesC_no b hb] at h2;cases h2
 ·rw [bytesC_no a ha] at h1;cases h1
theorem take14_said (s:List UInt8):(takeR14 s).2=0∧bytesC (takeR14 s).1=(s,0)∨(takeR14 s).2=3:=by
 unfold takeR14
 cases h:takeC14 s with
 | none=>exact .inr rfl
 | some c =>
   obtain ⟨h1,h2⟩:=take14_only s c h
   refine .inl ⟨rfl,?_⟩
   simp only
   rw [bytesC_yes c h1,h2]
set_option maxHeartbeats 4000000 in
theorem apart14_walk (C:P14C) (w:World) (hGl:G w) (cx:Ct) (vox vrx vpx:Value) (Ax:CtAt w cx vox vrx vpx) (cy:Ct) (voy vry vpy:Value) (Ay:CtAt w cy voy vry vpy) (s:List UInt8) (hs:s.length≤140737488351232) :
 Calls Tryz.prog 6 #[.agg (ctC cx vox vrx vpx),.agg (ctC cy voy vry vpy),.string ⟨s.toArray⟩] w fun e w'=>e=.returned (.bool true)∧Below w.heap.size w w':=by
 have HSh:=Lib.hid (fun W (hb:Below w.heap.size w W)=>shown14_any C W (hGl.below hb hGl.size))
 have CX:=Lib.hid (fun W (hb:Below w.heap.size w W)=>C.bytes cx vox vrx vpx W (Ax.below hb))
 have CY:=Lib.hid (fun W (hb:Below w.heap.size w W)=>C.bytes cy voy vry vpy W (Ay.below hb))
 have CS:=Lib.hid (fun W (hb:Below w.heap.size w W)=>rsame14_any cx cy vox vrx vpx voy vry vpy W (Ax.below hb) (Ay.below hb))
 have CT:=Lib.hid (fun W=>C.take s W hs)
 have CB:=Lib.hid (fun c vo vr vp W hC=>C.bytes c vo vr vp W hC)
 have HA:=Lib.hid (apart14_said cx cy)
 have HT:=Lib.hid (take14_said s)
 obtain ⟨⟨bx,ex⟩,hbx⟩:∃ y,bytesC cx=y:=⟨_,rfl⟩
 obtain ⟨⟨by',ey⟩,hby⟩:∃ y,bytesC cy=y:=⟨_,rfl⟩
 obtain ⟨sm,hsm⟩:∃ y,sameC cx cy=y:=⟨_,rfl⟩
 obtain ⟨⟨cz,ez⟩,hz⟩:∃ y,takeR14 s=y:=⟨_,rfl⟩
 rw [hbx] at CX HA
 rw [hby] at CY HA
 rw [hsm] at CS HA
 rw [hz] at CT HT
 simp only at CX CY HA HT
 clear hbx hby hsm hz
 obtain ⟨oax,ocx,rfl,_,_,_,_⟩:=Ax.order.some_at
 obtain ⟨rax,rcx,rfl,_,_,_,_⟩:=Ax.ring.some_at
 obtain ⟨pax,pcx,rfl,_,_,_⟩:=Ax.proofs.len
 obtain ⟨tx,sqx,pvx,rtx,ctx,⟨lvx,acx,ox,⟨k0x,k1x,k2x⟩,gx⟩,qx⟩:=cx
 obtain ⟨nox,hnox⟩:∃ m,ox.length=m:=⟨_,rfl⟩
 obtain ⟨ngx,hngx⟩:∃ m,gx.length=m:=⟨_,rfl⟩
 obtain ⟨nqx,hnqx⟩:∃ m,qx.length=m:=⟨_,rfl⟩
 obtain ⟨oay,ocy,rfl,_,_,_,_⟩:=Ay.order.some_at
 obtain ⟨ray,rcy,rfl,_,_,_,_⟩:=Ay.ring.some_at
 obtain ⟨pay,pcy,rfl,_,_,_⟩:=Ay.proofs.len
 obtain ⟨ty,sqy,pvy,rty,cty,⟨lvy,acy,oy,⟨k0y,k1y,k2y⟩,gy⟩,qy⟩:=cy
 obtain ⟨noy,hnoy⟩:∃ m,oy.length=m:=⟨_,rfl⟩
 obtain ⟨ngy,hngy⟩:∃ m,gy.length=m:=⟨_,rfl⟩
 obtain ⟨nqy,hnqy⟩:∃ m,qy.length=m:=⟨_,rfl⟩
 simp only [hnox,hngx,hnqx,hnoy,hngy,hnqy] at CX CY CS ⊢
 clear Ax Ay hnox hngx hnqx hnoy hngy hnqy
 have X0:=(SBox.new w 35 #[.string ⟨tx.toArray⟩,.int .i64 sqx,.string ⟨pvx.toArray⟩,.string ⟨rtx.toArray⟩,.int .i64 ctx,.int .i64 lvx,.bool acx,.slice oax nox ocx,.int .i64 k0x,.int .i64 k1x,.int .i64 k2x,.slice rax ngx rcx,.slice pax nqx pcx]).alloc (.cells #[.string ⟨ty.toArray⟩,.int .i64 sqy,.string ⟨pvy.toArray⟩,.string ⟨rty.toArray⟩,.int .i64 cty,.int .i64 lvy,.bool acy,.slice oay noy ocy,.int .i64 k0y,.int .i64 k1y,.int .i64 k2y,.slice ray ngy rcy,.slice pay nqy pcy] 35)
 have Y0:=SBox.new (w.alloc (.cells #[.string ⟨tx.toArray⟩,.int .i64 sqx,.string ⟨pvx.toArray⟩,.string ⟨rtx.toArray⟩,.int .i64 ctx,.int .i64 lvx,.bool acx,.slice oax nox ocx,.int .i64 k0x,.int .i64 k1x,.int .i64 k2x,.slice rax ngx rcx,.slice pax nqx pcx] 35)) 35 #[.string ⟨ty.toArray⟩,.int .i64 sqy,.string ⟨pvy.toArray⟩,.string ⟨rty.toArray⟩,.int .i64 cty,.int .i64 lvy,.bool acy,.slice oay noy ocy,.int .i64 k0y,.int .i64 k1y,.int .i64 k2y,.slice ray ngy rcy,.slice pay nqy pcy]
 rw [World.size_alloc] at Y0
 have B0:Below w.heap.size w ((w.alloc (.cells #[.string ⟨tx.toArray⟩,.int .i64 sqx,.string ⟨pvx.toArray⟩,.string ⟨rtx.toArray⟩,.int .i64 ctx,.int .i64 lvx,.bool acx,.slice oax nox ocx,.int .i64 k0x,.int .i64 k1x,.int .i64 k2x,.slice rax ngx rcx,.slice pax nqx pcx] 35)).alloc (.cells #[.string ⟨ty.toArray⟩,.int .i64 sqy,.string ⟨pvy.toArray⟩,.string ⟨rty.toArray⟩,.int .i64 cty,.int .i64 lvy,.bool acy,.slice oay noy ocy,.int .i64 k0y,.int .i64 k1y,.int .i64 k2y,.slice ray ngy rcy,.slice pay nqy pcy] 35)):=((Below.refl _ w).alloc (Nat.le_refl _) _).alloc (by simp) _
 generalize hW0:(w.alloc (.cells #[.string ⟨tx.toArray⟩,.int .i64 sqx,.string ⟨pvx.toArray⟩,.string ⟨rtx.toArray⟩,.int .i64 ctx,.int .i64 lvx,.bool acx,.slice oax nox ocx,.int .i64 k0x,.int .i64 k1x,.int .i64 k2x,.slice rax ngx rcx,.slice pax nqx pcx] 35)).alloc (.cells #[.string ⟨ty.toArray⟩,.int .i64 sqy,.string ⟨pvy.toArray⟩,.string ⟨rty.toArray⟩,.int .i64 cty,.int .i64 lvy,.bool acy,.slice oay noy ocy,.int .i64 k0y,.int .i64 k1y,.int .i64 k2y,.slice ray ngy rcy,.slice pay nqy pcy] 35)=W0 at X0 Y0 B0
 go_enter Tryz.func6,Tryz.ntmps6
 go_upto_region 1 with fail
 (try rw [hW0])
 clear hW0
 go_wp2_with fail
 refine (HSh.out _ B0).mono ?_
 rintro e w1 ⟨rfl,b1⟩
 have B1:=bel_trans B0 b1
 have X1:=X0.below b1
 have Y1:=Y0.below b1
 clear X0 Y0 B0 b1
 have c0:=X1.cell 0 _ rfl
 have c1:=X1.cell 1 _ rfl
 have c2:=X1.cell 2 _ rfl
 have c3:=X1.cell 3 _ rfl
 have c4:=X1.cell 4 _ rfl
 have c5:=X1.cell 5 _ rfl
 have c6:=X1.cell 6 _ rfl
 have c7:=X1.cell 7 _ rfl
 have c8:=X1.cell 8 _ rfl
 have c9:=X1.cell 9 _ rfl
 have c10:=X1.cell 10 _ rfl
 have c11:=X1.cell 11 _ rfl
 have c12:=X1.cell 12 _ rfl
 go_wp2_with fail
 refine (CX.out _ B1).mono ?_
 rintro e w2 ⟨rfl,b2⟩
 have B2:=bel_trans B1 b2
 have X2:=X1.below b2
 have Y2:=Y1.below b2
 clear c0 c1 c2 c3 c4 c5 c6 c7 c8 c9 c10 c11 c12
 clear X1 Y1 B1 b2
 have d0:=Y2.cell 0 _ rfl
 have d1:=Y2.cell 1 _ rfl
 have d2:=Y2.cell 2 _ rfl
 have d3:=Y2.cell 3 _ rfl
 have d4:=Y2.cell 4 _ rfl
 have d5:=Y2.cell 5 _ rfl
 have d6:=Y2.cell 6 _ rfl
 have d7:=Y2.cell 7 _ rfl
 have d8:=Y2.cell 8 _ rfl
 have d9:=Y2.cell 9 _ rfl
 have d10:=Y2.cell 10 _ rfl
 have d11:=Y2.cell 11 _ rfl
 have d12:=Y2.cell 12 _ rfl
 go_wp2_with fail
 refine (CY.out _ B2).mono ?_
 rintro e w3 ⟨rfl,b3⟩
 have B3:=bel_trans B2 b3
 have X3:=X2.below b3
 have Y3:=Y2.below b3
 clear d0 d1 d2 d3 d4 d5 d6 d7 d8 d9 d10 d11 d12
 clear X2 Y2 B2 b3
 have c0:=X3.cell 0 _ rfl
 have c1:=X3.cell 1 _ rfl
 have c2:=X3.cell 2 _ rfl
 have c3:=X3.cell 3 _ rfl
 have c4:=X3.cell 4 _ rfl
 have c5:=X3.cell 5 _ rfl
 have c6:=X3.cell 6 _ rfl
 have c7:=X3.cell 7 _ rfl
 have c8:=X3.cell 8 _ rfl
 have c9:=X3.cell 9 _ rfl
 have c10:=X3.cell 10 _ rfl
 have c11:=X3.cell 11 _ rfl
 have c12:=X3.cell 12 _ rfl
 have d0:=Y3.cell 0 _ rfl
 have d1:=Y3.cell 1 _ rfl
 have d2:=Y3.cell 2 _ rfl
 have d3:=Y3.cell 3 _ rfl
 have d4:=Y3.cell 4 _ rfl
 have d5:=Y3.cell 5 _ rfl
 have d6:=Y3.cell 6 _ rfl
 have d7:=Y3.cell 7 _ rfl
 have d8:=Y3.cell 8 _ rfl
 have d9:=Y3.cell 9 _ rfl
 have d10:=Y3.cell 10 _ rfl
 have d11:=Y3.cell 11 _ rfl
 have d12:=Y3.cell 12 _ rfl
 go_wp2_with fail
 refine (CS.out _ B3).mono ?_
 rintro e w4 ⟨rfl,b4⟩
 have B4:=bel_trans B3 b4
 clear c0 c1 c2 c3 c4 c5 c6 c7 c8 c9 c10 c11 c12
 clear d0 d1 d2 d3 d4 d5 d6 d7 d8 d9 d10 d11 d12
 clear X3 Y3 B3 b4
 go_upto_region 5 with fail
 go_cut [43] from 31 to 43 (fun x W=>x=.bool false∧W=w4)
 case first =>
  by_cases h1:ex=0
  ·by_cases h2:ey=0
   ·have h3:(decide (bx=by') != sm)=false:=by
     cases h:(decide (bx=by') != sm) with
     | false=>rfl
     | true=>exact absurd ⟨h1,h2,h⟩ HA.out
    subst h1 h2
    clear HA
    by_cases h4:bx=by'
    ·rw [decide_eq_true h4] at h3
     have h5:sm=true:=by cases sm<;>simp_all
     have h6:(bx==by')=true:=beq_iff_eq.2 h4
     subst h5
     clear h3 h4
     go_wp2_with fail
     go_meet
     exact ⟨rfl,rfl⟩
    ·rw [decide_eq_false h4] at h3
     have h5:sm=false:=by cases sm<;>simp_all
     have h6:(bx==by')=false:=beq_eq_false_iff_ne.2 h4
     subst h5
     clear h3 h4
     go_wp2_with fail
     go_meet
     exact ⟨rfl,rfl⟩
   ·have e1:(ey==0)=false:=beq_eq_false_iff_ne.2 h2
    subst h1
    clear HA h2
    go_wp2_with fail
    go_meet
    exact ⟨rfl,rfl⟩
  ·have e1:(ex==0)=false:=beq_eq_false_iff_ne.2 h1
   clear HA h1
   go_wp2_with fail
   go_meet
   exact ⟨rfl,rfl⟩
 case rest =>
  obtain ⟨rfl,rfl⟩:=hcut
  clear HA
  go_wp2_with fail
  refine (CT.out _).mono ?_
  rintro e w5 ⟨voz,vrz,vpz,rfl,b5,Az⟩
  have B5:=bel_trans B4 b5
  have b6:=(Below.refl w5.heap.size w5).alloc (Nat.le_refl _) (.cells (ctC cz voz vrz vpz) 35)
  have CB2:=CB.out cz voz vrz vpz _ (Az.below b6)
  have B6:=bel_trans B5 b6
  obtain ⟨⟨bz,fz⟩,hbz⟩:∃ y,bytesC cz=y:=⟨_,rfl⟩
  rw [hbz] at CB2 HT
  clear hbz
  obtain ⟨oaz,ocz,rfl,_,_,_,_⟩:=Az.order.some_at
  obtain ⟨raz,rcz,rfl,_,_,_,_⟩:=Az.ring.some_at
  obtain ⟨paz,pcz,rfl,_,_,_⟩:=Az.proofs.len
  obtain ⟨tz,sqz,pvz,rtz,ctz,⟨lvz,acz,oz,⟨k0z,k1z,k2z⟩,gz⟩,qz⟩:=cz
  obtain ⟨noz,hnoz⟩:∃ m,oz.length=m:=⟨_,rfl⟩
  obtain ⟨ngz,hngz⟩:∃ m,gz.length=m:=⟨_,rfl⟩
  obtain ⟨nqz,hnqz⟩:∃ m,qz.length=m:=⟨_,rfl⟩
  simp only [hnoz,hngz,hnqz] at CB2 b6 B6 ⊢
  have Z6:=SBox.new w5 35 #[.string ⟨tz.toArray⟩,.int .i64 sqz,.string ⟨pvz.toArray⟩,.string ⟨rtz.toArray⟩,.int .i64 ctz,.int .i64 lvz,.bool acz,.slice oaz noz ocz,.int .i64 k0z,.int .i64 k1z,.int .i64 k2z,.slice raz ngz rcz,.slice paz nqz pcz]
  have d0:=Z6.cell 0 _ rfl
  have d1:=Z6.cell 1 _ rfl
  have d2:=Z6.cell 2 _ rfl
  have d3:=Z6.cell 3 _ rfl
  have d4:=Z6.cell 4 _ rfl
  have d5:=Z6.cell 5 _ rfl
  have d6:=Z6.cell 6 _ rfl
  have d7:=Z6.cell 7 _ rfl
  have d8:=Z6.cell 8 _ rfl
  have d9:=Z6.cell 9 _ rfl
  have d10:=Z6.cell 10 _ rfl
  have d11:=Z6.cell 11 _ rfl
  have d12:=Z6.cell 12 _ rfl
  clear Az hnoz hngz hnqz
  go_wp2_with fail
  refine CB2.mono ?_
  rintro e w7 ⟨rfl,b7⟩
  have B7:=bel_trans B6 b7
  rcases HT.out with ⟨h1,h2⟩ | h1
  ·(try simp only at h1 h2)
   obtain ⟨rfl,rfl⟩:bz=s∧fz=0:=by simpa using h2
   subst h1
   clear h2 HT CT CB CB2
   go_wp2_with fail
   go_ret
   exact ⟨rfl,B7⟩
  ·(try simp only at h1)
   subst h1
   clear HT CT CB CB2
   go_wp2_with fail
   go_ret
   exact ⟨rfl,B7⟩
end Go.Proofs.YtkkenfhlgpjmjaaGreatDoor
