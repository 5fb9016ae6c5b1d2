/-
  The walk of CheckTurned.
-/
import Derived.Test.YtdlcimfifkhllaaGreatCL0c
import Derived.Deep.RegionHeld3
namespace Go.Proofs.YtdlcimfifkhllaaGreat
set_option maxRecDepth 100000
open Go.RowKit
set_option linter.unusedVariables false
attribute [local go_sem] ba_size
set_option maxHeartbeats 4000000 in
theorem turned13_walk (C:P13C) (w:World) (vh:Value) (h:List Ev) (Th:IsEvs w vh h) (Gh:∀ x∈h,goodE x) (xx:Vd) (ox rx:Value) (Ax:IsInts w ox xx.2.2.1) (Bx:IsEds w rx xx.2.2.2.2) (Gx:okV xx) (xy:Vd) (oy ry:Value) (Ay:IsInts w oy xy.2.2.1) (By:IsEds w ry xy.2.2.2.2) (Gy:okV xy) :
 Calls Tryz.prog 6 #[vh,.agg (vdC xx ox rx),.agg (vdC xy oy ry)] w fun e w'=>e=.returned (.bool true)∧Below w.heap.size w w':=by
 have HSh:Hid (∀ W,Below w.heap.size w W→Calls Tryz.prog 10 #[] W fun e w'=>e=.returned (.bool true)∧Below W.heap.size W w'):=fun W h=>shown13_any C W
 have HF:Hid (∀ W,Below w.heap.size w W→Calls Tryz.prog 11 #[vh] W fun e w'=>e=.returned (.bool (decide (fewK h)))∧Below W.heap.size W w'):=fun W hb=>few13_any vh h W (Th.below hb)
 by_cases h1:fewK h
 ·rw [decide_eq_true h1] at HF
  by_cases hrx:xx.2.2.2.2.length≤200
  ·by_cases hry:xy.2.2.2.2.length≤200
   ·by_cases hlv:xx.1=xy.1
    ·by_cases hac:xx.2.1=xy.2.1
     ·skip
      clear Gx Gy
      obtain ⟨lvx,acx,olx,⟨px,qx,sx⟩,gx⟩:=xx
      simp only at Ax Bx hrx hlv hac
      obtain ⟨oax,ocx,rfl,oix,ojx,okx,_⟩:=Ax.some_at
      obtain ⟨rax,rcx,rfl,rix,rjx,rkx,_⟩:=Bx.some_at
      obtain ⟨nox,hnox⟩:∃ m,olx.length=m:=⟨_,rfl⟩
      obtain ⟨ngx,hngx⟩:∃ m,gx.length=m:=⟨_,rfl⟩
      obtain ⟨lvy,acy,oly,⟨py,qy,sy⟩,gy⟩:=xy
      simp only at Ay By hry hlv hac
      obtain ⟨oay,ocy,rfl,oiy,ojy,oky,_⟩:=Ay.some_at
      obtain ⟨ray,rcy,rfl,riy,rjy,rky,_⟩:=By.some_at
      obtain ⟨noy,hnoy⟩:∃ m,oly.length=m:=⟨_,rfl⟩
      obtain ⟨ngy,hngy⟩:∃ m,gy.length=m:=⟨_,rfl⟩
      obtain ⟨ah,ch,rfl,ih,jh,kh,HCh⟩:=Th.reads
      obtain ⟨n,hn⟩:∃ n,h.length=n:=⟨_,rfl⟩
      simp only [hnox,hngx,hnoy,hngy,hn] at HF hrx hry hlv hac ⊢
      have j1:¬ (200:Int) < (ngx:Int):=by omega
      have j2:¬ (200:Int) < (ngy:Int):=by omega
      have j3:(lvx != lvy)=false:=by rw [hlv];exact bne_self_eq_false _
      have j4:(acx==acy)=true:=by rw [hac];exact beq_self_eq_true _
      clear hlv hac
      clear hnox hngx hnoy hngy hn Ax Bx Ay By Th HCh
      have X_t:=SBox.new w 28 #[.int .i64 lvx,.bool acx,.slice oax nox ocx,.int .i64 px,.int .i64 qx,.int .i64 sx,.slice rax ngx rcx]
      have B_t:=Below.alloc (Below.refl w.heap.size w) (Below.size (Below.refl w.heap.size w)) (.cells #[.int .i64 lvx,.bool acx,.slice oax nox ocx,.int .i64 px,.int .i64 qx,.int .i64 sx,.slice rax ngx rcx] 28)
      have X_u:=SBox.new (w.alloc (.cells #[.int .i64 lvx,.bool acx,.slice oax nox ocx,.int .i64 px,.int .i64 qx,.int .i64 sx,.slice rax ngx rcx] 28)) 28 #[.int .i64 lvy,.bool acy,.slice oay noy ocy,.int .i64 py,.int .i64 qy,.int .i64 sy,.slice ray ngy rcy]
      rw [show (w.alloc (.cells #[.int .i64 lvx,.bool acx,.slice oax nox ocx,.int .i64 px,.int .i64 qx,.int .i64 sx,.slice rax ngx rcx] 28)).heap.size=w.heap.size+1 by simp] at X_u
      replace X_t:=X_t.alloc (.cells #[.int .i64 lvy,.bool acy,.slice oay noy ocy,.int .i64 py,.int .i64 qy,.int .i64 sy,.slice ray ngy rcy] 28)
      have B_u:=Below.alloc B_t (Below.size B_t) (.cells #[.int .i64 lvy,.bool acy,.slice oay noy ocy,.int .i64 py,.int .i64 qy,.int .i64 sy,.slice ray ngy rcy] 28)
      go_enter Tryz.func6,Tryz.ntmps6
      have f_t0_0:=X_t.cell 0 _ rfl
      have f_t1_0:=X_t.cell 1 _ rfl
      have f_t2_0:=X_t.cell 2 _ rfl
      have f_t3_0:=X_t.cell 3 _ rfl
      have f_t4_0:=X_t.cell 4 _ rfl
      have f_t5_0:=X_t.cell 5 _ rfl
      have f_t6_0:=X_t.cell 6 _ rfl
      have f_u0_0:=X_u.cell 0 _ rfl
      have f_u1_0:=X_u.cell 1 _ rfl
      have f_u2_0:=X_u.cell 2 _ rfl
      have f_u3_0:=X_u.cell 3 _ rfl
      have f_u4_0:=X_u.cell 4 _ rfl
      have f_u5_0:=X_u.cell 5 _ rfl
      have f_u6_0:=X_u.cell 6 _ rfl
      go_wp2_with fail
      refine (HSh.out _ B_u).mono ?_
      rintro e w1 ⟨rfl,b1⟩
      have B1:=bel_trans B_u b1
      clear f_t0_0 f_t1_0 f_t2_0 f_t3_0 f_t4_0 f_t5_0 f_t6_0 f_u0_0 f_u1_0 f_u2_0 f_u3_0 f_u4_0 f_u5_0 f_u6_0
      replace X_t:=X_t.below b1
      replace X_u:=X_u.below b1
      have f_t0_1:=X_t.cell 0 _ rfl
      have f_t1_1:=X_t.cell 1 _ rfl
      have f_t2_1:=X_t.cell 2 _ rfl
      have f_t3_1:=X_t.cell 3 _ rfl
      have f_t4_1:=X_t.cell 4 _ rfl
      have f_t5_1:=X_t.cell 5 _ rfl
      have f_t6_1:=X_t.cell 6 _ rfl
      have f_u0_1:=X_u.cell 0 _ rfl
      have f_u1_1:=X_u.cell 1 _ rfl
      have f_u2_1:=X_u.cell 2 _ rfl
      have f_u3_1:=X_u.cell 3 _ rfl
      have f_u4_1:=X_u.cell 4 _ rfl
      have f_u5_1:=X_u.cell 5 _ rfl
      have f_u6_1:=X_u.cell 6 _ rfl
      go_wp2_with fail
      refine (HF.out _ B1).mono ?_
      rintro e w2 ⟨rfl,b2⟩
      have B2:=bel_trans B1 b2
      clear f_t0_1 f_t1_1 f_t2_1 f_t3_1 f_t4_1 f_t5_1 f_t6_1 f_u0_1 f_u1_1 f_u2_1 f_u3_1 f_u4_1 f_u5_1 f_u6_1
      replace X_t:=X_t.below b2
      replace X_u:=X_u.below b2
      have f_t0_2:=X_t.cell 0 _ rfl
      have f_t1_2:=X_t.cell 1 _ rfl
      have f_t2_2:=X_t.cell 2 _ rfl
      have f_t3_2:=X_t.cell 3 _ rfl
      have f_t4_2:=X_t.cell 4 _ rfl
      have f_t5_2:=X_t.cell 5 _ rfl
      have f_t6_2:=X_t.cell 6 _ rfl
      have f_u0_2:=X_u.cell 0 _ rfl
      have f_u1_2:=X_u.cell 1 _ rfl
      have f_u2_2:=X_u.cell 2 _ rfl
      have f_u3_2:=X_u.cell 3 _ rfl
      have f_u4_2:=X_u.cell 4 _ rfl
      have f_u5_2:=X_u.cell 5 _ rfl
      have f_u6_2:=X_u.cell 6 _ rfl
      go_wp2_with fail
      go_ret
      exact ⟨rfl,B2⟩
     ·skip
      have HC:Hid (∀ W,Below w.heap.size w W→Calls Tryz.prog 12 #[vh,.agg (vdC xx ox rx)] W fun e w'=>e=.returned (.int .i64 (checkV h xx))∧Below W.heap.size W w'):=fun W hb=>C.check h vh ox rx xx W (Th.below hb) Gh h1.few Gx (Ax.below hb) (Bx.below hb) (by omega)
      have HD:Hid (∀ W,Below w.heap.size w W→Calls Tryz.prog 12 #[vh,.agg (vdC xy oy ry)] W fun e w'=>e=.returned (.int .i64 (checkV h xy))∧Below W.heap.size W w'):=fun W hb=>C.check h vh oy ry xy W (Th.below hb) Gh h1.few Gy (Ay.below hb) (By.below hb) (by omega)
      by_cases h0:checkV h xx=0
      ·have ht:=checkV_turned h xx xy hlv hac h0
       rw [h0] at HC
       rw [ht] at HD
       clear h0 ht
       clear Gx Gy
       obtain ⟨lvx,acx,olx,⟨px,qx,sx⟩,gx⟩:=xx
       simp only at Ax Bx hrx hlv hac HC
       obtain ⟨oax,ocx,rfl,oix,ojx,okx,_⟩:=Ax.some_at
       obtain ⟨rax,rcx,rfl,rix,rjx,rkx,_⟩:=Bx.some_at
       obtain ⟨nox,hnox⟩:∃ m,olx.length=m:=⟨_,rfl⟩
       obtain ⟨ngx,hngx⟩:∃ m,gx.length=m:=⟨_,rfl⟩
       obtain ⟨lvy,acy,oly,⟨py,qy,sy⟩,gy⟩:=xy
       simp only at Ay By hry hlv hac HD
       obtain ⟨oay,ocy,rfl,oiy,ojy,oky,_⟩:=Ay.some_at
       obtain ⟨ray,rcy,rfl,riy,rjy,rky,_⟩:=By.some_at
       obtain ⟨noy,hnoy⟩:∃ m,oly.length=m:=⟨_,rfl⟩
       obtain ⟨ngy,hngy⟩:∃ m,gy.length=m:=⟨_,rfl⟩
       obtain ⟨ah,ch,rfl,ih,jh,kh,HCh⟩:=Th.reads
       obtain ⟨n,hn⟩:∃ n,h.length=n:=⟨_,rfl⟩
       simp only [hnox,hngx,hnoy,hngy,hn] at HF hrx hry hlv hac HC HD ⊢
       have j1:¬ (200:Int) < (ngx:Int):=by omega
       have j2:¬ (200:Int) < (ngy:Int):=by omega
       have j3:(lvx != lvy)=false:=by rw [hlv];exact bne_self_eq_false _
       have j4:(acx==acy)=false:=beq_eq_false_iff_ne.2 hac
       clear hlv hac
       clear hnox hngx hnoy hngy hn Ax Bx Ay By Th HCh
       have X_t:=SBox.new w 28 #[.int .i64 lvx,.bool acx,.slice oax nox ocx,.int .i64 px,.int .i64 qx,.int .i64 sx,.slice rax ngx rcx]
       have B_t:=Below.alloc (Below.refl w.heap.size w) (Below.size (Below.refl w.heap.size w)) (.cells #[.int .i64 lvx,.bool acx,.slice oax nox ocx,.int .i64 px,.int .i64 qx,.int .i64 sx,.slice rax ngx rcx] 28)
       have X_u:=SBox.new (w.alloc (.cells #[.int .i64 lvx,.bool acx,.slice oax nox ocx,.int .i64 px,.int .i64 qx,.int .i64 sx,.slice rax ngx rcx] 28)) 28 #[.int .i64 lvy,.bool acy,.slice oay noy ocy,.int .i64 py,.int .i64 qy,.int .i64 sy,.slice ray ngy rcy]
       rw [show (w.alloc (.cells #[.int .i64 lvx,.bool acx,.slice oax nox ocx,.int .i64 px,.int .i64 qx,.int .i64 sx,.slice rax ngx rcx] 28)).heap.size=w.heap.size+1 by simp] at X_u
       replace X_t:=X_t.alloc (.cells #[.int .i64 lvy,.bool acy,.slice oay noy ocy,.int .i64 py,.int .i64 qy,.int .i64 sy,.slice ray ngy rcy] 28)
       have B_u:=Below.alloc B_t (Below.size B_t) (.cells #[.int .i64 lvy,.bool acy,.slice oay noy ocy,.int .i64 py,.int .i64 qy,.int .i64 sy,.slice ray ngy rcy] 28)
       go_enter Tryz.func6,Tryz.ntmps6
       have f_t0_0:=X_t.cell 0 _ rfl
       have f_t1_0:=X_t.cell 1 _ rfl
       have f_t2_0:=X_t.cell 2 _ rfl
       have f_t3_0:=X_t.cell 3 _ rfl
       have f_t4_0:=X_t.cell 4 _ rfl
       have f_t5_0:=X_t.cell 5 _ rfl
       have f_t6_0:=X_t.cell 6 _ rfl
       have f_u0_0:=X_u.cell 0 _ rfl
       have f_u1_0:=X_u.cell 1 _ rfl
       have f_u2_0:=X_u.cell 2 _ rfl
       have f_u3_0:=X_u.cell 3 _ rfl
       have f_u4_0:=X_u.cell 4 _ rfl
       have f_u5_0:=X_u.cell 5 _ rfl
       have f_u6_0:=X_u.cell 6 _ rfl
       go_wp2_with fail
       refine (HSh.out _ B_u).mono ?_
       rintro e w1 ⟨rfl,b1⟩
       have B1:=bel_trans B_u b1
       clear f_t0_0 f_t1_0 f_t2_0 f_t3_0 f_t4_0 f_t5_0 f_t6_0 f_u0_0 f_u1_0 f_u2_0 f_u3_0 f_u4_0 f_u5_0 f_u6_0
       replace X_t:=X_t.below b1
       replace X_u:=X_u.below b1
       have f_t0_1:=X_t.cell 0 _ rfl
       have f_t1_1:=X_t.cell 1 _ rfl
       have f_t2_1:=X_t.cell 2 _ rfl
       have f_t3_1:=X_t.cell 3 _ rfl
       have f_t4_1:=X_t.cell 4 _ rfl
       have f_t5_1:=X_t.cell 5 _ rfl
       have f_t6_1:=X_t.cell 6 _ rfl
       have f_u0_1:=X_u.cell 0 _ rfl
       have f_u1_1:=X_u.cell 1 _ rfl
       have f_u2_1:=X_u.cell 2 _ rfl
       have f_u3_1:=X_u.cell 3 _ rfl
       have f_u4_1:=X_u.cell 4 _ rfl
       have f_u5_1:=X_u.cell 5 _ rfl
       have f_u6_1:=X_u.cell 6 _ rfl
       go_wp2_with fail
       refine (HF.out _ B1).mono ?_
       rintro e w2 ⟨rfl,b2⟩
       have B2:=bel_trans B1 b2
       clear f_t0_1 f_t1_1 f_t2_1 f_t3_1 f_t4_1 f_t5_1 f_t6_1 f_u0_1 f_u1_1 f_u2_1 f_u3_1 f_u4_1 f_u5_1 f_u6_1
       replace X_t:=X_t.below b2
       replace X_u:=X_u.below b2
       have f_t0_2:=X_t.cell 0 _ rfl
       have f_t1_2:=X_t.cell 1 _ rfl
       have f_t2_2:=X_t.cell 2 _ rfl
       have f_t3_2:=X_t.cell 3 _ rfl
       have f_t4_2:=X_t.cell 4 _ rfl
       have f_t5_2:=X_t.cell 5 _ rfl
       have f_t6_2:=X_t.cell 6 _ rfl
       have f_u0_2:=X_u.cell 0 _ rfl
       have f_u1_2:=X_u.cell 1 _ rfl
       have f_u2_2:=X_u.cell 2 _ rfl
       have f_u3_2:=X_u.cell 3 _ rfl
       have f_u4_2:=X_u.cell 4 _ rfl
       have f_u5_2:=X_u.cell 5 _ rfl
       have f_u6_2:=X_u.cell 6 _ rfl
       go_wp2_with fail
       refine (HC.out _ B2).mono ?_
       rintro e w3 ⟨rfl,b3⟩
       have B3:=bel_trans B2 b3
       clear f_t0_2 f_t1_2 f_t2_2 f_t3_2 f_t4_2 f_t5_2 f_t6_2 f_u0_2 f_u1_2 f_u2_2 f_u3_2 f_u4_2 f_u5_2 f_u6_2
       replace X_t:=X_t.below b3
       replace X_u:=X_u.below b3
       have f_t0_3:=X_t.cell 0 _ rfl
       have f_t1_3:=X_t.cell 1 _ rfl
       have f_t2_3:=X_t.cell 2 _ rfl
       have f_t3_3:=X_t.cell 3 _ rfl
       have f_t4_3:=X_t.cell 4 _ rfl
       have f_t5_3:=X_t.cell 5 _ rfl
       have f_t6_3:=X_t.cell 6 _ rfl
       have f_u0_3:=X_u.cell 0 _ rfl
       have f_u1_3:=X_u.cell 1 _ rfl
       have f_u2_3:=X_u.cell 2 _ rfl
       have f_u3_3:=X_u.cell 3 _ rfl
       have f_u4_3:=X_u.cell 4 _ rfl
       have f_u5_3:=X_u.cell 5 _ rfl
       have f_u6_3:=X_u.cell 6 _ rfl
       go_wp2_with fail
       refine (HD.out _ B3).mono ?_
       rintro e w4 ⟨rfl,b4⟩
       have B4:=bel_trans B3 b4
       clear f_t0_3 f_t1_3 f_t2_3 f_t3_3 f_t4_3 f_t5_3 f_t6_3 f_u0_3 f_u1_3 f_u2_3 f_u3_3 f_u4_3 f_u5_3 f_u6_3
       replace X_t:=X_t.below b4
       replace X_u:=X_u.below b4
       have f_t0_4:=X_t.cell 0 _ rfl
       have f_t1_4:=X_t.cell 1 _ rfl
       have f_t2_4:=X_t.cell 2 _ rfl
       have f_t3_4:=X_t.cell 3 _ rfl
       have f_t4_4:=X_t.cell 4 _ rfl
       have f_t5_4:=X_t.cell 5 _ rfl
       have f_t6_4:=X_t.cell 6 _ rfl
       have f_u0_4:=X_u.cell 0 _ rfl
       have f_u1_4:=X_u.cell 1 _ rfl
       have f_u2_4:=X_u.cell 2 _ rfl
       have f_u3_4:=X_u.cell 3 _ rfl
       have f_u4_4:=X_u.cell 4 _ rfl
       have f_u5_4:=X_u.cell 5 _ rfl
       have f_u6_4:=X_u.cell 6 _ rfl
       go_wp2_with fail
       go_ret
       exact ⟨rfl,B4⟩
      ·obtain ⟨kc,hkc⟩:∃ y,checkV h xx=y:=⟨_,rfl⟩
       have j0:(kc != 0)=true:=by rw [← hkc];exact bne_iff_ne.2 h0
       rw [hkc] at HC
       clear hkc h0 HD
       clear Gx Gy
       obtain ⟨lvx,acx,olx,⟨px,qx,sx⟩,gx⟩:=xx
       simp only at Ax Bx hrx hlv hac HC
       obtain ⟨oax,ocx,rfl,oix,ojx,okx,_⟩:=Ax.some_at
       obtain ⟨rax,rcx,rfl,rix,rjx,rkx,_⟩:=Bx.some_at
       obtain ⟨nox,hnox⟩:∃ m,olx.length=m:=⟨_,rfl⟩
       obtain ⟨ngx,hngx⟩:∃ m,gx.length=m:=⟨_,rfl⟩
       obtain ⟨lvy,acy,oly,⟨py,qy,sy⟩,gy⟩:=xy
       simp only at Ay By hry hlv hac
       obtain ⟨oay,ocy,rfl,oiy,ojy,oky,_⟩:=Ay.some_at
       obtain ⟨ray,rcy,rfl,riy,rjy,rky,_⟩:=By.some_at
       obtain ⟨noy,hnoy⟩:∃ m,oly.length=m:=⟨_,rfl⟩
       obtain ⟨ngy,hngy⟩:∃ m,gy.length=m:=⟨_,rfl⟩
       obtain ⟨ah,ch,rfl,ih,jh,kh,HCh⟩:=Th.reads
       obtain ⟨n,hn⟩:∃ n,h.length=n:=⟨_,rfl⟩
       simp only [hnox,hngx,hnoy,hngy,hn] at HF hrx hry hlv hac HC ⊢
       have j1:¬ (200:Int) < (ngx:Int):=by omega
       have j2:¬ (200:Int) < (ngy:Int):=by omega
       have j3:(lvx != lvy)=false:=by rw [hlv];exact bne_self_eq_false _
       have j4:(acx==acy)=false:=beq_eq_false_iff_ne.2 hac
       clear hlv hac
       clear hnox hngx hnoy hngy hn Ax Bx Ay By Th HCh
       have X_t:=SBox.new w 28 #[.int .i64 lvx,.bool acx,.slice oax nox ocx,.int .i64 px,.int .i64 qx,.int .i64 sx,.slice rax ngx rcx]
       have B_t:=Below.alloc (Below.refl w.heap.size w) (Below.size (Below.refl w.heap.size w)) (.cells #[.int .i64 lvx,.bool acx,.slice oax nox ocx,.int .i64 px,.int .i64 qx,.int .i64 sx,.slice rax ngx rcx] 28)
       have X_u:=SBox.new (w.alloc (.cells #[.int .i64 lvx,.bool acx,.slice oax nox ocx,.int .i64 px,.int .i64 qx,.int .i64 sx,.slice rax ngx rcx] 28)) 28 #[.int .i64 lvy,.bool acy,.slice oay noy ocy,.int .i64 py,.int .i64 qy,.int .i64 sy,.slice ray ngy rcy]
       rw [show (w.alloc (.cells #[.int .i64 lvx,.bool acx,.slice oax nox ocx,.int .i64 px,.int .i64 qx,.int .i64 sx,.slice rax ngx rcx] 28)).heap.size=w.heap.size+1 by simp] at X_u
       replace X_t:=X_t.alloc (.cells #[.int .i64 lvy,.bool acy,.slice oay noy ocy,.int .i64 py,.int .i64 qy,.int .i64 sy,.slice ray ngy rcy] 28)
       have B_u:=Below.alloc B_t (Below.size B_t) (.cells #[.int .i64 lvy,.bool acy,.slice oay noy ocy,.int .i64 py,.int .i64 qy,.int .i64 sy,.slice ray ngy rcy] 28)
       go_enter Tryz.func6,Tryz.ntmps6
       have f_t0_0:=X_t.cell 0 _ rfl
       have f_t1_0:=X_t.cell 1 _ rfl
       have f_t2_0:=X_t.cell 2 _ rfl
       have f_t3_0:=X_t.cell 3 _ rfl
       have f_t4_0:=X_t.cell 4 _ rfl
       have f_t5_0:=X_t.cell 5 _ rfl
       have f_t6_0:=X_t.cell 6 _ rfl
       have f_u0_0:=X_u.cell 0 _ rfl
       have f_u1_0:=X_u.cell 1 _ rfl
       have f_u2_0:=X_u.cell 2 _ rfl
       have f_u3_0:=X_u.cell 3 _ rfl
       have f_u4_0:=X_u.cell 4 _ rfl
       have f_u5_0:=X_u.cell 5 _ rfl
       have f_u6_0:=X_u.cell 6 _ rfl
       go_wp2_with fail
       refine (HSh.out _ B_u).mono ?_
       rintro e w1 ⟨rfl,b1⟩
       have B1:=bel_trans B_u b1
       clear f_t0_0 f_t1_0 f_t2_0 f_t3_0 f_t4_0 f_t5_0 f_t6_0 f_u0_0 f_u1_0 f_u2_0 f_u3_0 f_u4_0 f_u5_0 f_u6_0
       replace X_t:=X_t.below b1
       replace X_u:=X_u.below b1
       have f_t0_1:=X_t.cell 0 _ rfl
       have f_t1_1:=X_t.cell 1 _ rfl
       have f_t2_1:=X_t.cell 2 _ rfl
       have f_t3_1:=X_t.cell 3 _ rfl
       have f_t4_1:=X_t.cell 4 _ rfl
       have f_t5_1:=X_t.cell 5 _ rfl
       have f_t6_1:=X_t.cell 6 _ rfl
       have f_u0_1:=X_u.cell 0 _ rfl
       have f_u1_1:=X_u.cell 1 _ rfl
       have f_u2_1:=X_u.cell 2 _ rfl
       have f_u3_1:=X_u.cell 3 _ rfl
       have f_u4_1:=X_u.cell 4 _ rfl
       have f_u5_1:=X_u.cell 5 _ rfl
       have f_u6_1:=X_u.cell 6 _ rfl
       go_wp2_with fail
       refine (HF.out _ B1).mono ?_
       rintro e w2 ⟨rfl,b2⟩
       have B2:=bel_trans B1 b2
       clear f_t0_1 f_t1_1 f_t2_1 f_t3_1 f_t4_1 f_t5_1 f_t6_1 f_u0_1 f_u1_1 f_u2_1 f_u3_1 f_u4_1 f_u5_1 f_u6_1
       replace X_t:=X_t.below b2
       replace X_u:=X_u.below b2
       have f_t0_2:=X_t.cell 0 _ rfl
       have f_t1_2:=X_t.cell 1 _ rfl
       have f_t2_2:=X_t.cell 2 _ rfl
       have f_t3_2:=X_t.cell 3 _ rfl
       have f_t4_2:=X_t.cell 4 _ rfl
       have f_t5_2:=X_t.cell 5 _ rfl
       have f_t6_2:=X_t.cell 6 _ rfl
       have f_u0_2:=X_u.cell 0 _ rfl
       have f_u1_2:=X_u.cell 1 _ rfl
       have f_u2_2:=X_u.cell 2 _ rfl
       have f_u3_2:=X_u.cell 3 _ rfl
       have f_u4_2:=X_u.cell 4 _ rfl
       have f_u5_2:=X_u.cell 5 _ rfl
       have f_u6_2:=X_u.cell 6 _ rfl
       go_wp2_with fail
       refine (HC.out _ B2).mono ?_
       rintro e w3 ⟨rfl,b3⟩
       have B3:=bel_trans B2 b3
       clear f_t0_2 f_t1_2 f_t2_2 f_t3_2 f_t4_2 f_t5_2 f_t6_2 f_u0_2 f_u1_2 f_u2_2 f_u3_2 f_u4_2 f_u5_2 f_u6_2
       replace X_t:=X_t.below b3
       replace X_u:=X_u.below b3
       have f_t0_3:=X_t.cell 0 _ rfl
       have f_t1_3:=X_t.cell 1 _ rfl
       have f_t2_3:=X_t.cell 2 _ rfl
       have f_t3_3:=X_t.cell 3 _ rfl
       have f_t4_3:=X_t.cell 4 _ rfl
       have f_t5_3:=X_t.cell 5 _ rfl
       have f_t6_3:=X_t.cell 6 _ rfl
       have f_u0_3:=X_u.cell 0 _ rfl
       have f_u1_3:=X_u.cell 1 _ rfl
       have f_u2_3:=X_u.cell 2 _ rfl
       have f_u3_3:=X_u.cell 3 _ rfl
       have f_u4_3:=X_u.cell 4 _ rfl
       have f_u5_3:=X_u.cell 5 _ rfl
       have f_u6_3:=X_u.cell 6 _ rfl
       go_wp2_with fail
       go_ret
       exact ⟨rfl,B3⟩
    ·skip
     clear Gx Gy
     obtain ⟨lvx,acx,olx,⟨px,qx,sx⟩,gx⟩:=xx
     simp only at Ax Bx hrx hlv
     obtain ⟨oax,ocx,rfl,oix,ojx,okx,_⟩:=Ax.some_at
     obtain ⟨rax,rcx,rfl,rix,rjx,rkx,_⟩:=Bx.some_at
     obtain ⟨nox,hnox⟩:∃ m,olx.length=m:=⟨_,rfl⟩
     obtain ⟨ngx,hngx⟩:∃ m,gx.length=m:=⟨_,rfl⟩
     obtain ⟨lvy,acy,oly,⟨py,qy,sy⟩,gy⟩:=xy
     simp only at Ay By hry hlv
     obtain ⟨oay,ocy,rfl,oiy,ojy,oky,_⟩:=Ay.some_at
     obtain ⟨ray,rcy,rfl,riy,rjy,rky,_⟩:=By.some_at
     obtain ⟨noy,hnoy⟩:∃ m,oly.length=m:=⟨_,rfl⟩
     obtain ⟨ngy,hngy⟩:∃ m,gy.length=m:=⟨_,rfl⟩
     obtain ⟨ah,ch,rfl,ih,jh,kh,HCh⟩:=Th.reads
     obtain ⟨n,hn⟩:∃ n,h.length=n:=⟨_,rfl⟩
     simp only [hnox,hngx,hnoy,hngy,hn] at HF hrx hry hlv ⊢
     have j1:¬ (200:Int) < (ngx:Int):=by omega
     have j2:¬ (200:Int) < (ngy:Int):=by omega
     have j3:(lvx != lvy)=true:=bne_iff_ne.2 hlv
     clear hlv
     clear hnox hngx hnoy hngy hn Ax Bx Ay By Th HCh
     have X_t:=SBox.new w 28 #[.int .i64 lvx,.bool acx,.slice oax nox ocx,.int .i64 px,.int .i64 qx,.int .i64 sx,.slice rax ngx rcx]
     have B_t:=Below.alloc (Below.refl w.heap.size w) (Below.size (Below.refl w.heap.size w)) (.cells #[.int .i64 lvx,.bool acx,.slice oax nox ocx,.int .i64 px,.int .i64 qx,.int .i64 sx,.slice rax ngx rcx] 28)
     have X_u:=SBox.new (w.alloc (.cells #[.int .i64 lvx,.bool acx,.slice oax nox ocx,.int .i64 px,.int .i64 qx,.int .i64 sx,.slice rax ngx rcx] 28)) 28 #[.int .i64 lvy,.bool acy,.slice oay noy ocy,.int .i64 py,.int .i64 qy,.int .i64 sy,.slice ray ngy rcy]
     rw [show (w.alloc (.cells #[.int .i64 lvx,.bool acx,.slice oax nox ocx,.int .i64 px,.int .i64 qx,.int .i64 sx,.slice rax ngx rcx] 28)).heap.size=w.heap.size+1 by simp] at X_u
     replace X_t:=X_t.alloc (.cells #[.int .i64 lvy,.bool acy,.slice oay noy ocy,.int .i64 py,.int .i64 qy,.int .i64 sy,.slice ray ngy rcy] 28)
     have B_u:=Below.alloc B_t (Below.size B_t) (.cells #[.int .i64 lvy,.bool acy,.slice oay noy ocy,.int .i64 py,.int .i64 qy,.int .i64 sy,.slice ray ngy rcy] 28)
     go_enter Tryz.func6,Tryz.ntmps6
     have f_t0_0:=X_t.cell 0 _ rfl
     have f_t1_0:=X_t.cell 1 _ rfl
     have f_t2_0:=X_t.cell 2 _ rfl
     have f_t3_0:=X_t.cell 3 _ rfl
     have f_t4_0:=X_t.cell 4 _ rfl
     have f_t5_0:=X_t.cell 5 _ rfl
     have f_t6_0:=X_t.cell 6 _ rfl
     have f_u0_0:=X_u.cell 0 _ rfl
     have f_u1_0:=X_u.cell 1 _ rfl
     have f_u2_0:=X_u.cell 2 _ rfl
     have f_u3_0:=X_u.cell 3 _ rfl
     have f_u4_0:=X_u.cell 4 _ rfl
     have f_u5_0:=X_u.cell 5 _ rfl
     have f_u6_0:=X_u.cell 6 _ rfl
     go_wp2_with fail
     refine (HSh.out _ B_u).mono ?_
     rintro e w1 ⟨rfl,b1⟩
     have B1:=bel_trans B_u b1
     clear f_t0_0 f_t1_0 f_t2_0 f_t3_0 f_t4_0 f_t5_0 f_t6_0 f_u0_0 f_u1_0 f_u2_0 f_u3_0 f_u4_0 f_u5_0 f_u6_0
     replace X_t:=X_t.below b1
     replace X_u:=X_u.below b1
     have f_t0_1:=X_t.cell 0 _ rfl
     have f_t1_1:=X_t.cell 1 _ rfl
     have f_t2_1:=X_t.cell 2 _ rfl
     have f_t3_1:=X_t.cell 3 _ rfl
     have f_t4_1:=X_t.cell 4 _ rfl
     have f_t5_1:=X_t.cell 5 _ rfl
     have f_t6_1:=X_t.cell 6 _ rfl
     have f_u0_1:=X_u.cell 0 _ rfl
     have f_u1_1:=X_u.cell 1 _ rfl
     have f_u2_1:=X_u.cell 2 _ rfl
     have f_u3_1:=X_u.cell 3 _ rfl
     have f_u4_1:=X_u.cell 4 _ rfl
     have f_u5_1:=X_u.cell 5 _ rfl
     have f_u6_1:=X_u.cell 6 _ rfl
     go_wp2_with fail
     refine (HF.out _ B1).mono ?_
     rintro e w2 ⟨rfl,b2⟩
     have B2:=bel_trans B1 b2
     clear f_t0_1 f_t1_1 f_t2_1 f_t3_1 f_t4_1 f_t5_1 f_t6_1 f_u0_1 f_u1_1 f_u2_1 f_u3_1 f_u4_1 f_u5_1 f_u6_1
     replace X_t:=X_t.below b2
     replace X_u:=X_u.below b2
     have f_t0_2:=X_t.cell 0 _ rfl
     have f_t1_2:=X_t.cell 1 _ rfl
     have f_t2_2:=X_t.cell 2 _ rfl
     have f_t3_2:=X_t.cell 3 _ rfl
     have f_t4_2:=X_t.cell 4 _ rfl
     have f_t5_2:=X_t.cell 5 _ rfl
     have f_t6_2:=X_t.cell 6 _ rfl
     have f_u0_2:=X_u.cell 0 _ rfl
     have f_u1_2:=X_u.cell 1 _ rfl
     have f_u2_2:=X_u.cell 2 _ rfl
     have f_u3_2:=X_u.cell 3 _ rfl
     have f_u4_2:=X_u.cell 4 _ rfl
     have f_u5_2:=X_u.cell 5 _ rfl
     have f_u6_2:=X_u.cell 6 _ rfl
     go_wp2_with fail
     go_ret
     exact ⟨rfl,B2⟩
   ·skip
    clear Gx Gy
    obtain ⟨lvx,acx,olx,⟨px,qx,sx⟩,gx⟩:=xx
    simp only at Ax Bx hrx
    obtain ⟨oax,ocx,rfl,oix,ojx,okx,_⟩:=Ax.some_at
    obtain ⟨rax,rcx,rfl,rix,rjx,rkx,_⟩:=Bx.some_at
    obtain ⟨nox,hnox⟩:∃ m,olx.length=m:=⟨_,rfl⟩
    obtain ⟨ngx,hngx⟩:∃ m,gx.length=m:=⟨_,rfl⟩
    obtain ⟨lvy,acy,oly,⟨py,qy,sy⟩,gy⟩:=xy
    simp only at Ay By hry
    obtain ⟨oay,ocy,rfl,oiy,ojy,oky,_⟩:=Ay.some_at
    obtain ⟨ray,rcy,rfl,riy,rjy,rky,_⟩:=By.some_at
    obtain ⟨noy,hnoy⟩:∃ m,oly.length=m:=⟨_,rfl⟩
    obtain ⟨ngy,hngy⟩:∃ m,gy.length=m:=⟨_,rfl⟩
    obtain ⟨ah,ch,rfl,ih,jh,kh,HCh⟩:=Th.reads
    obtain ⟨n,hn⟩:∃ n,h.length=n:=⟨_,rfl⟩
    simp only [hnox,hngx,hnoy,hngy,hn] at HF hrx hry ⊢
    have j1:¬ (200:Int) < (ngx:Int):=by omega
    have j2:(200:Int) < (ngy:Int):=by omega
    clear hnox hngx hnoy hngy hn Ax Bx Ay By Th HCh
    have X_t:=SBox.new w 28 #[.int .i64 lvx,.bool acx,.slice oax nox ocx,.int .i64 px,.int .i64 qx,.int .i64 sx,.slice rax ngx rcx]
    have B_t:=Below.alloc (Below.refl w.heap.size w) (Below.size (Below.refl w.heap.size w)) (.cells #[.int .i64 lvx,.bool acx,.slice oax nox ocx,.int .i64 px,.int .i64 qx,.int .i64 sx,.slice rax ngx rcx] 28)
    have X_u:=SBox.new (w.alloc (.cells #[.int .i64 lvx,.bool acx,.slice oax nox ocx,.int .i64 px,.int .i64 qx,.int .i64 sx,.slice rax ngx rcx] 28)) 28 #[.int .i64 lvy,.bool acy,.slice oay noy ocy,.int .i64 py,.int .i64 qy,.int .i64 sy,.slice ray ngy rcy]
    rw [show (w.alloc (.cells #[.int .i64 lvx,.bool acx,.slice oax nox ocx,.int .i64 px,.int .i64 qx,.int .i64 sx,.slice rax ngx rcx] 28)).heap.size=w.heap.size+1 by simp] at X_u
    replace X_t:=X_t.alloc (.cells #[.int .i64 lvy,.bool acy,.slice oay noy ocy,.int .i64 py,.int .i64 qy,.int .i64 sy,.slice ray ngy rcy] 28)
    have B_u:=Below.alloc B_t (Below.size B_t) (.cells #[.int .i64 lvy,.bool acy,.slice oay noy ocy,.int .i64 py,.int .i64 qy,.int .i64 sy,.slice ray ngy rcy] 28)
    go_enter Tryz.func6,Tryz.ntmps6
    have f_t0_0:=X_t.cell 0 _ rfl
    have f_t1_0:=X_t.cell 1 _ rfl
    have f_t2_0:=X_t.cell 2 _ rfl
    have f_t3_0:=X_t.cell 3 _ rfl
    have f_t4_0:=X_t.cell 4 _ rfl
    have f_t5_0:=X_t.cell 5 _ rfl
    have f_t6_0:=X_t.cell 6 _ rfl
    have f_u0_0:=X_u.cell 0 _ rfl
    have f_u1_0:=X_u.cell 1 _ rfl
    have f_u2_0:=X_u.cell 2 _ rfl
    have f_u3_0:=X_u.cell 3 _ rfl
    have f_u4_0:=X_u.cell 4 _ rfl
    have f_u5_0:=X_u.cell 5 _ rfl
    have f_u6_0:=X_u.cell 6 _ rfl
    go_wp2_with fail
    refine (HSh.out _ B_u).mono ?_
    rintro e w1 ⟨rfl,b1⟩
    have B1:=bel_trans B_u b1
    clear f_t0_0 f_t1_0 f_t2_0 f_t3_0 f_t4_0 f_t5_0 f_t6_0 f_u0_0 f_u1_0 f_u2_0 f_u3_0 f_u4_0 f_u5_0 f_u6_0
    replace X_t:=X_t.below b1
    replace X_u:=X_u.below b1
    have f_t0_1:=X_t.cell 0 _ rfl
    have f_t1_1:=X_t.cell 1 _ rfl
    have f_t2_1:=X_t.cell 2 _ rfl
    have f_t3_1:=X_t.cell 3 _ rfl
    have f_t4_1:=X_t.cell 4 _ rfl
    have f_t5_1:=X_t.cell 5 _ rfl
    have f_t6_1:=X_t.cell 6 _ rfl
    have f_u0_1:=X_u.cell 0 _ rfl
    have f_u1_1:=X_u.cell 1 _ rfl
    have f_u2_1:=X_u.cell 2 _ rfl
    have f_u3_1:=X_u.cell 3 _ rfl
    have f_u4_1:=X_u.cell 4 _ rfl
    have f_u5_1:=X_u.cell 5 _ rfl
    have f_u6_1:=X_u.cell 6 _ rfl
    go_wp2_with fail
    refine (HF.out _ B1).mono ?_
    rintro e w2 ⟨rfl,b2⟩
    have B2:=bel_trans B1 b2
    clear f_t0_1 f_t1_1 f_t2_1 f_t3_1 f_t4_1 f_t5_1 f_t6_1 f_u0_1 f_u1_1 f_u2_1 f_u3_1 f_u4_1 f_u5_1 f_u6_1
    replace X_t:=X_t.below b2
    replace X_u:=X_u.below b2
    have f_t0_2:=X_t.cell 0 _ rfl
    have f_t1_2:=X_t.cell 1 _ rfl
    have f_t2_2:=X_t.cell 2 _ rfl
    have f_t3_2:=X_t.cell 3 _ rfl
    have f_t4_2:=X_t.cell 4 _ rfl
    have f_t5_2:=X_t.cell 5 _ rfl
    have f_t6_2:=X_t.cell 6 _ rfl
    have f_u0_2:=X_u.cell 0 _ rfl
    have f_u1_2:=X_u.cell 1 _ rfl
    have f_u2_2:=X_u.cell 2 _ rfl
    have f_u3_2:=X_u.cell 3 _ rfl
    have f_u4_2:=X_u.cell 4 _ rfl
    have f_u5_2:=X_u.cell 5 _ rfl
    have f_u6_2:=X_u.cell 6 _ rfl
    go_wp2_with fail
    go_ret
    exact ⟨rfl,B2⟩
  ·skip
   clear Gx Gy
   obtain ⟨lvx,acx,olx,⟨px,qx,sx⟩,gx⟩:=xx
   simp only at Ax Bx hrx
   obtain ⟨oax,ocx,rfl,oix,ojx,okx,_⟩:=Ax.some_at
   obtain ⟨rax,rcx,rfl,rix,rjx,rkx,_⟩:=Bx.some_at
   obtain ⟨nox,hnox⟩:∃ m,olx.length=m:=⟨_,rfl⟩
   obtain ⟨ngx,hngx⟩:∃ m,gx.length=m:=⟨_,rfl⟩
   obtain ⟨lvy,acy,oly,⟨py,qy,sy⟩,gy⟩:=xy
   simp only at Ay By
   obtain ⟨oay,ocy,rfl,oiy,ojy,oky,_⟩:=Ay.some_at
   obtain ⟨ray,rcy,rfl,riy,rjy,rky,_⟩:=By.some_at
   obtain ⟨noy,hnoy⟩:∃ m,oly.length=m:=⟨_,rfl⟩
   obtain ⟨ngy,hngy⟩:∃ m,gy.length=m:=⟨_,rfl⟩
   obtain ⟨ah,ch,rfl,ih,jh,kh,HCh⟩:=Th.reads
   obtain ⟨n,hn⟩:∃ n,h.length=n:=⟨_,rfl⟩
   simp only [hnox,hngx,hnoy,hngy,hn] at HF hrx ⊢
   have j1:(200:Int) < (ngx:Int):=by omega
   clear hnox hngx hnoy hngy hn Ax Bx Ay By Th HCh
   have X_t:=SBox.new w 28 #[.int .i64 lvx,.bool acx,.slice oax nox ocx,.int .i64 px,.int .i64 qx,.int .i64 sx,.slice rax ngx rcx]
   have B_t:=Below.alloc (Below.refl w.heap.size w) (Below.size (Below.refl w.heap.size w)) (.cells #[.int .i64 lvx,.bool acx,.slice oax nox ocx,.int .i64 px,.int .i64 qx,.int .i64 sx,.slice rax ngx rcx] 28)
   have X_u:=SBox.new (w.alloc (.cells #[.int .i64 lvx,.bool acx,.slice oax nox ocx,.int .i64 px,.int .i64 qx,.int .i64 sx,.slice rax ngx rcx] 28)) 28 #[.int .i64 lvy,.bool acy,.slice oay noy ocy,.int .i64 py,.int .i64 qy,.int .i64 sy,.slice ray ngy rcy]
   rw [show (w.alloc (.cells #[.int .i64 lvx,.bool acx,.slice oax nox ocx,.int .i64 px,.int .i64 qx,.int .i64 sx,.slice rax ngx rcx] 28)).heap.size=w.heap.size+1 by simp] at X_u
   replace X_t:=X_t.alloc (.cells #[.int .i64 lvy,.bool acy,.slice oay noy ocy,.int .i64 py,.int .i64 qy,.int .i64 sy,.slice ray ngy rcy] 28)
   have B_u:=Below.alloc B_t (Below.size B_t) (.cells #[.int .i64 lvy,.bool acy,.slice oay noy ocy,.int .i64 py,.int .i64 qy,.int .i64 sy,.slice ray ngy rcy] 28)
   go_enter Tryz.func6,Tryz.ntmps6
   have f_t0_0:=X_t.cell 0 _ rfl
   have f_t1_0:=X_t.cell 1 _ rfl
   have f_t2_0:=X_t.cell 2 _ rfl
   have f_t3_0:=X_t.cell 3 _ rfl
   have f_t4_0:=X_t.cell 4 _ rfl
   have f_t5_0:=X_t.cell 5 _ rfl
   have f_t6_0:=X_t.cell 6 _ rfl
   have f_u0_0:=X_u.cell 0 _ rfl
   have f_u1_0:=X_u.cell 1 _ rfl
   have f_u2_0:=X_u.cell 2 _ rfl
   have f_u3_0:=X_u.cell 3 _ rfl
   have f_u4_0:=X_u.cell 4 _ rfl
   have f_u5_0:=X_u.cell 5 _ rfl
   have f_u6_0:=X_u.cell 6 _ rfl
   go_wp2_with fail
   refine (HSh.out _ B_u).mono ?_
   rintro e w1 ⟨rfl,b1⟩
   have B1:=bel_trans B_u b1
   clear f_t0_0 f_t1_0 f_t2_0 f_t3_0 f_t4_0 f_t5_0 f_t6_0 f_u0_0 f_u1_0 f_u2_0 f_u3_0 f_u4_0 f_u5_0 f_u6_0
   replace X_t:=X_t.below b1
   replace X_u:=X_u.below b1
   have f_t0_1:=X_t.cell 0 _ rfl
   have f_t1_1:=X_t.cell 1 _ rfl
   have f_t2_1:=X_t.cell 2 _ rfl
   have f_t3_1:=X_t.cell 3 _ rfl
   have f_t4_1:=X_t.cell 4 _ rfl
   have f_t5_1:=X_t.cell 5 _ rfl
   have f_t6_1:=X_t.cell 6 _ rfl
   have f_u0_1:=X_u.cell 0 _ rfl
   have f_u1_1:=X_u.cell 1 _ rfl
   have f_u2_1:=X_u.cell 2 _ rfl
   have f_u3_1:=X_u.cell 3 _ rfl
   have f_u4_1:=X_u.cell 4 _ rfl
   have f_u5_1:=X_u.cell 5 _ rfl
   have f_u6_1:=X_u.cell 6 _ rfl
   go_wp2_with fail
   refine (HF.out _ B1).mono ?_
   rintro e w2 ⟨rfl,b2⟩
   have B2:=bel_trans B1 b2
   clear f_t0_1 f_t1_1 f_t2_1 f_t3_1 f_t4_1 f_t5_1 f_t6_1 f_u0_1 f_u1_1 f_u2_1 f_u3_1 f_u4_1 f_u5_1 f_u6_1
   replace X_t:=X_t.below b2
   replace X_u:=X_u.below b2
   have f_t0_2:=X_t.cell 0 _ rfl
   have f_t1_2:=X_t.cell 1 _ rfl
   have f_t2_2:=X_t.cell 2 _ rfl
   have f_t3_2:=X_t.cell 3 _ rfl
   have f_t4_2:=X_t.cell 4 _ rfl
   have f_t5_2:=X_t.cell 5 _ rfl
   have f_t6_2:=X_t.cell 6 _ rfl
   have f_u0_2:=X_u.cell 0 _ rfl
   have f_u1_2:=X_u.cell 1 _ rfl
   have f_u2_2:=X_u.cell 2 _ rfl
   have f_u3_2:=X_u.cell 3 _ rfl
   have f_u4_2:=X_u.cell 4 _ rfl
   have f_u5_2:=X_u.cell 5 _ rfl
   have f_u6_2:=X_u.cell 6 _ rfl
   go_wp2_with fail
   go_ret
   exact ⟨rfl,B2⟩
 ·rw [decide_eq_false h1] at HF
  clear Gx Gy
  obtain ⟨lvx,acx,olx,⟨px,qx,sx⟩,gx⟩:=xx
  simp only at Ax Bx
  obtain ⟨oax,ocx,rfl,oix,ojx,okx,_⟩:=Ax.some_at
  obtain ⟨rax,rcx,rfl,rix,rjx,rkx,_⟩:=Bx.some_at
  obtain ⟨nox,hnox⟩:∃ m,olx.length=m:=⟨_,rfl⟩
  obtain ⟨ngx,hngx⟩:∃ m,gx.length=m:=⟨_,rfl⟩
  obtain ⟨lvy,acy,oly,⟨py,qy,sy⟩,gy⟩:=xy
  simp only at Ay By
  obtain ⟨oay,ocy,rfl,oiy,ojy,oky,_⟩:=Ay.some_at
  obtain ⟨ray,rcy,rfl,riy,rjy,rky,_⟩:=By.some_at
  obtain ⟨noy,hnoy⟩:∃ m,oly.length=m:=⟨_,rfl⟩
  obtain ⟨ngy,hngy⟩:∃ m,gy.length=m:=⟨_,rfl⟩
  obtain ⟨ah,ch,rfl,ih,jh,kh,HCh⟩:=Th.reads
  obtain ⟨n,hn⟩:∃ n,h.length=n:=⟨_,rfl⟩
  simp only [hnox,hngx,hnoy,hngy,hn] at HF ⊢
  clear hnox hngx hnoy hngy hn Ax Bx Ay By Th HCh
  have X_t:=SBox.new w 28 #[.int .i64 lvx,.bool acx,.slice oax nox ocx,.int .i64 px,.int .i64 qx,.int .i64 sx,.slice rax ngx rcx]
  have B_t:=Below.alloc (Below.refl w.heap.size w) (Below.size (Below.refl w.heap.size w)) (.cells #[.int .i64 lvx,.bool acx,.slice oax nox ocx,.int .i64 px,.int .i64 qx,.int .i64 sx,.slice rax ngx rcx] 28)
  have X_u:=SBox.new (w.alloc (.cells #[.int .i64 lvx,.bool acx,.slice oax nox ocx,.int .i64 px,.int .i64 qx,.int .i64 sx,.slice rax ngx rcx] 28)) 28 #[.int .i64 lvy,.bool acy,.slice oay noy ocy,.int .i64 py,.int .i64 qy,.int .i64 sy,.slice ray ngy rcy]
  rw [show (w.alloc (.cells #[.int .i64 lvx,.bool acx,.slice oax nox ocx,.int .i64 px,.int .i64 qx,.int .i64 sx,.slice rax ngx rcx] 28)).heap.size=w.heap.size+1 by simp] at X_u
  replace X_t:=X_t.alloc (.cells #[.int .i64 lvy,.bool acy,.slice oay noy ocy,.int .i64 py,.int .i64 qy,.int .i64 sy,.slice ray ngy rcy] 28)
  have B_u:=Below.alloc B_t (Below.size B_t) (.cells #[.int .i64 lvy,.bool acy,.slice oay noy ocy,.int .i64 py,.int .i64 qy,.int .i64 sy,.slice ray ngy rcy] 28)
  go_enter Tryz.func6,Tryz.ntmps6
  have f_t0_0:=X_t.cell 0 _ rfl
  have f_t1_0:=X_t.cell 1 _ rfl
  have f_t2_0:=X_t.cell 2 _ rfl
  have f_t3_0:=X_t.cell 3 _ rfl
  have f_t4_0:=X_t.cell 4 _ rfl
  have f_t5_0:=X_t.cell 5 _ rfl
  have f_t6_0:=X_t.cell 6 _ rfl
  have f_u0_0:=X_u.cell 0 _ rfl
  have f_u1_0:=X_u.cell 1 _ rfl
  have f_u2_0:=X_u.cell 2 _ rfl
  have f_u3_0:=X_u.cell 3 _ rfl
  have f_u4_0:=X_u.cell 4 _ rfl
  have f_u5_0:=X_u.cell 5 _ rfl
  have f_u6_0:=X_u.cell 6 _ rfl
  go_wp2_with fail
  refine (HSh.out _ B_u).mono ?_
  rintro e w1 ⟨rfl,b1⟩
  have B1:=bel_trans B_u b1
  clear f_t0_0 f_t1_0 f_t2_0 f_t3_0 f_t4_0 f_t5_0 f_t6_0 f_u0_0 f_u1_0 f_u2_0 f_u3_0 f_u4_0 f_u5_0 f_u6_0
  replace X_t:=X_t.below b1
  replace X_u:=X_u.below b1
  have f_t0_1:=X_t.cell 0 _ rfl
  have f_t1_1:=X_t.cell 1 _ rfl
  have f_t2_1:=X_t.cell 2 _ rfl
  have f_t3_1:=X_t.cell 3 _ rfl
  have f_t4_1:=X_t.cell 4 _ rfl
  have f_t5_1:=X_t.cell 5 _ rfl
  have f_t6_1:=X_t.cell 6 _ rfl
  have f_u0_1:=X_u.cell 0 _ rfl
  have f_u1_1:=X_u.cell 1 _ rfl
  have f_u2_1:=X_u.cell 2 _ rfl
  have f_u3_1:=X_u.cell 3 _ rfl
  have f_u4_1:=X_u.cell 4 _ rfl
  have f_u5_1:=X_u.cell 5 _ rfl
  have f_u6_1:=X_u.cell 6 _ rfl
  go_wp2_with fail
  refine (HF.out _ B1).mono ?_
  rintro e w2 ⟨rfl,b2⟩
  have B2:=bel_trans B1 b2
  clear f_t0_1 f_t1_1 f_t2_1 f_t3_1 f_t4_1 f_t5_1 f_t6_1 f_u0_1 f_u1_1 f_u2_1 f_u3_1 f_u4_1 f_u5_1 f_u6_1
  replace X_t:=X_t.below b2
  replace X_u:=X_u.below b2
  have f_t0_2:=X_t.cell 0 _ rfl
  have f_t1_2:=X_t.cell 1 _ rfl
  have f_t2_2:=X_t.cell 2 _ rfl
  have f_t3_2:=X_t.cell 3 _ rfl
  have f_t4_2:=X_t.cell 4 _ rfl
  have f_t5_2:=X_t.cell 5 _ rfl
  have f_t6_2:=X_t.cell 6 _ rfl
  have f_u0_2:=X_u.cell 0 _ rfl
  have f_u1_2:=X_u.cell 1 _ rfl
  have f_u2_2:=X_u.cell 2 _ rfl
  have f_u3_2:=X_u.cell 3 _ rfl
  have f_u4_2:=X_u.cell 4 _ rfl
  have f_u5_2:=X_u.cell 5 _ rfl
  have f_u6_2:=X_u.cell 6 _ rfl
  go_wp2_with fail
  go_ret
  exact ⟨rfl,B2⟩
end Go.Proofs.YtdlcimfifkhllaaGreat
