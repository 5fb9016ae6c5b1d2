/-
  The walk of CheckRight.
-/
import Derived.Test.YtdlcimfifkhllaaGreatSCheckRightR12Good
namespace Go.Proofs.YtdlcimfifkhllaaGreat
set_option maxRecDepth 100000
open Go.RowKit
set_option linter.unusedVariables false
attribute [local go_sem] ba_size
set_option maxHeartbeats 4000000 in
theorem right13_walk (C:P13C) (w:World) (vh:Value) (h:List Ev) (Th:IsEvs w vh h) (Gh:∀ x∈h,goodE x) (xx:Vd) (ox rx:Value) (Ax:IsInts w ox xx.2.2.1) (Bx:IsEds w rx xx.2.2.2.2) (Gx:okV xx) :
 Calls Tryz.prog 4 #[vh,.agg (vdC xx ox rx)] w fun e w'=>e=.returned (.bool true)∧Below w.heap.size w w':=by
 have HSh:Hid (∀ W,Below w.heap.size w W→Calls Tryz.prog 10 #[] W fun e w'=>e=.returned (.bool true)∧Below W.heap.size W w'):=fun W h=>shown13_any C W
 have HF:Hid (∀ W,Below w.heap.size w W→Calls Tryz.prog 11 #[vh] W fun e w'=>e=.returned (.bool (decide (fewK h)))∧Below W.heap.size W w'):=fun W hb=>few13_any vh h W (Th.below hb)
 by_cases h1:fewK h
 ·rw [decide_eq_true h1] at HF
  by_cases hrx:xx.2.2.2.2.length≤200
  ·skip
   have HC:Hid (∀ W,Below w.heap.size w W→Calls Tryz.prog 12 #[vh,.agg (vdC xx ox rx)] W fun e w'=>e=.returned (.int .i64 (checkV h xx))∧Below W.heap.size W w'):=fun W hb=>C.check h vh ox rx xx W (Th.below hb) Gh h1.few Gx (Ax.below hb) (Bx.below hb) (by omega)
   by_cases h0:checkV h xx=0
   ·obtain ⟨c1,c2,c3⟩:=check_right h xx h0
    have HM:Hid (∀ W,Below w.heap.size w W→Calls Tryz.prog 18 #[vh] W fun e w'=>e=.returned (.tuple #[.int .i64 ((formedL h).1:Int),.int .i64 ((formedL h).2:Int)])∧Below W.heap.size W w'):=fun W hb=>rformed_any h vh W (Th.below hb)
    have HG:Hid (∀ W,Below w.heap.size w W→Calls Tryz.prog 19 #[vh,.int .i64 xx.1] W fun e w'=>e=.returned (.bool xx.2.1)∧Below W.heap.size W w'):=fun W hb=>(rgood_any h vh W xx.1 (Th.below hb) c2 c1).mono (fun e w' ⟨b,e1,e2,e3⟩=>⟨by rw [e1];have:b=xx.2.1:=Bool.eq_iff_iff.2 (e2.trans c3.symm);rw [this],e3⟩)
    have hf0:=(formed_ok h).2 c2
    rw [hf0] at HM
    rw [h0] at HC
    obtain ⟨f1,hf1⟩:∃ y,(formedL h).1=y:=⟨_,rfl⟩
    rw [hf1] at HM
    clear hf0 hf1 h0 c1 c2 c3
    clear Gx
    obtain ⟨lvx,acx,olx,⟨px,qx,sx⟩,gx⟩:=xx
    simp only at Ax Bx hrx HC HG
    obtain ⟨oax,ocx,rfl,oix,ojx,okx,_⟩:=Ax.some_at
    obtain ⟨rax,rcx,rfl,rix,rjx,rkx,_⟩:=Bx.some_at
    obtain ⟨nox,hnox⟩:∃ m,olx.length=m:=⟨_,rfl⟩
    obtain ⟨ngx,hngx⟩:∃ m,gx.length=m:=⟨_,rfl⟩
    obtain ⟨ah,ch,rfl,ih,jh,kh,HCh⟩:=Th.reads
    obtain ⟨n,hn⟩:∃ n,h.length=n:=⟨_,rfl⟩
    simp only [hnox,hngx,hn] at HF HM hrx HC HG ⊢
    have j1:¬ (200:Int) < (ngx:Int):=by omega
    have e_a:(acx==acx)=true:=beq_self_eq_true _
    clear hnox hngx hn Ax Bx Th HCh
    have X_t:=SBox.new w 28 #[.int .i64 lvx,.bool acx,.slice oax nox ocx,.int .i64 px,.int .i64 qx,.int .i64 sx,.slice rax ngx rcx]
    have B_t:=Below.alloc (Below.refl w.heap.size w) (Below.size (Below.refl w.heap.size w)) (.cells #[.int .i64 lvx,.bool acx,.slice oax nox ocx,.int .i64 px,.int .i64 qx,.int .i64 sx,.slice rax ngx rcx] 28)
    go_enter Tryz.func4,Tryz.ntmps4
    have f_t0_0:=X_t.cell 0 _ rfl
    have f_t1_0:=X_t.cell 1 _ rfl
    have f_t2_0:=X_t.cell 2 _ rfl
    have f_t3_0:=X_t.cell 3 _ rfl
    have f_t4_0:=X_t.cell 4 _ rfl
    have f_t5_0:=X_t.cell 5 _ rfl
    have f_t6_0:=X_t.cell 6 _ rfl
    go_wp2_with fail
    refine (HSh.out _ B_t).mono ?_
    rintro e w1 ⟨rfl,b1⟩
    have B1:=bel_trans B_t b1
    clear f_t0_0 f_t1_0 f_t2_0 f_t3_0 f_t4_0 f_t5_0 f_t6_0
    replace X_t:=X_t.below b1
    have f_t0_1:=X_t.cell 0 _ rfl
    have f_t1_1:=X_t.cell 1 _ rfl
    have f_t2_1:=X_t.cell 2 _ rfl
    have f_t3_1:=X_t.cell 3 _ rfl
    have f_t4_1:=X_t.cell 4 _ rfl
    have f_t5_1:=X_t.cell 5 _ rfl
    have f_t6_1:=X_t.cell 6 _ rfl
    go_wp2_with fail
    refine (HF.out _ B1).mono ?_
    rintro e w2 ⟨rfl,b2⟩
    have B2:=bel_trans B1 b2
    clear f_t0_1 f_t1_1 f_t2_1 f_t3_1 f_t4_1 f_t5_1 f_t6_1
    replace X_t:=X_t.below b2
    have f_t0_2:=X_t.cell 0 _ rfl
    have f_t1_2:=X_t.cell 1 _ rfl
    have f_t2_2:=X_t.cell 2 _ rfl
    have f_t3_2:=X_t.cell 3 _ rfl
    have f_t4_2:=X_t.cell 4 _ rfl
    have f_t5_2:=X_t.cell 5 _ rfl
    have f_t6_2:=X_t.cell 6 _ rfl
    go_wp2_with fail
    refine (HC.out _ B2).mono ?_
    rintro e w3 ⟨rfl,b3⟩
    have B3:=bel_trans B2 b3
    clear f_t0_2 f_t1_2 f_t2_2 f_t3_2 f_t4_2 f_t5_2 f_t6_2
    replace X_t:=X_t.below b3
    have f_t0_3:=X_t.cell 0 _ rfl
    have f_t1_3:=X_t.cell 1 _ rfl
    have f_t2_3:=X_t.cell 2 _ rfl
    have f_t3_3:=X_t.cell 3 _ rfl
    have f_t4_3:=X_t.cell 4 _ rfl
    have f_t5_3:=X_t.cell 5 _ rfl
    have f_t6_3:=X_t.cell 6 _ rfl
    go_wp2_with fail
    refine (HM.out _ B3).mono ?_
    rintro e w4 ⟨rfl,b4⟩
    have B4:=bel_trans B3 b4
    clear f_t0_3 f_t1_3 f_t2_3 f_t3_3 f_t4_3 f_t5_3 f_t6_3
    replace X_t:=X_t.below b4
    have f_t0_4:=X_t.cell 0 _ rfl
    have f_t1_4:=X_t.cell 1 _ rfl
    have f_t2_4:=X_t.cell 2 _ rfl
    have f_t3_4:=X_t.cell 3 _ rfl
    have f_t4_4:=X_t.cell 4 _ rfl
    have f_t5_4:=X_t.cell 5 _ rfl
    have f_t6_4:=X_t.cell 6 _ rfl
    have S0:(fun V=>Below w.heap.size w V∧V.cell? ⟨w.heap.size,0,none⟩=some (.int .i64 lvx)∧V.cell? ⟨w.heap.size,1,none⟩=some (.bool acx)∧V.cell? ⟨w.heap.size,2,none⟩=some (.slice oax nox ocx)∧V.cell? ⟨w.heap.size,3,none⟩=some (.int .i64 px)∧V.cell? ⟨w.heap.size,4,none⟩=some (.int .i64 qx)∧V.cell? ⟨w.heap.size,5,none⟩=some (.int .i64 sx)∧V.cell? ⟨w.heap.size,6,none⟩=some (.slice rax ngx rcx)) (w4).drew:=⟨B4.drew,f_t0_4,f_t1_4,f_t2_4,f_t3_4,f_t4_4,f_t5_4,f_t6_4⟩
    have keepS:∀ V V':World,(fun V=>Below w.heap.size w V∧V.cell? ⟨w.heap.size,0,none⟩=some (.int .i64 lvx)∧V.cell? ⟨w.heap.size,1,none⟩=some (.bool acx)∧V.cell? ⟨w.heap.size,2,none⟩=some (.slice oax nox ocx)∧V.cell? ⟨w.heap.size,3,none⟩=some (.int .i64 px)∧V.cell? ⟨w.heap.size,4,none⟩=some (.int .i64 qx)∧V.cell? ⟨w.heap.size,5,none⟩=some (.int .i64 sx)∧V.cell? ⟨w.heap.size,6,none⟩=some (.slice rax ngx rcx)) V→Below V.heap.size V V'→(fun V=>Below w.heap.size w V∧V.cell? ⟨w.heap.size,0,none⟩=some (.int .i64 lvx)∧V.cell? ⟨w.heap.size,1,none⟩=some (.bool acx)∧V.cell? ⟨w.heap.size,2,none⟩=some (.slice oax nox ocx)∧V.cell? ⟨w.heap.size,3,none⟩=some (.int .i64 px)∧V.cell? ⟨w.heap.size,4,none⟩=some (.int .i64 qx)∧V.cell? ⟨w.heap.size,5,none⟩=some (.int .i64 sx)∧V.cell? ⟨w.heap.size,6,none⟩=some (.slice rax ngx rcx)) V':=fun V V' ⟨h,a0,a1,a2,a3,a4,a5,a6⟩ b=>⟨bel_trans h b,cell_bel b a0,cell_bel b a1,cell_bel b a2,cell_bel b a3,cell_bel b a4,cell_bel b a5,cell_bel b a6⟩
    go_wp2_with fail
    go_region_held3 (fun V=>Below w.heap.size w V∧V.cell? ⟨w.heap.size,0,none⟩=some (.int .i64 lvx)∧V.cell? ⟨w.heap.size,1,none⟩=some (.bool acx)∧V.cell? ⟨w.heap.size,2,none⟩=some (.slice oax nox ocx)∧V.cell? ⟨w.heap.size,3,none⟩=some (.int .i64 px)∧V.cell? ⟨w.heap.size,4,none⟩=some (.int .i64 qx)∧V.cell? ⟨w.heap.size,5,none⟩=some (.int .i64 sx)∧V.cell? ⟨w.heap.size,6,none⟩=some (.slice rax ngx rcx)) (first | exact S0 | exact keepS _ _ (by assumption) (by assumption)) (first | (go_at_call 19;refine (HG.out _ (And.left (by assumption))).mono ?_;rintro e w' ⟨rfl,bb⟩))
    go_wp2_with fail
    go_ret
    exact ⟨rfl,And.left (by assumption)⟩
   ·obtain ⟨kc,hkc⟩:∃ y,checkV h xx=y:=⟨_,rfl⟩
    have j0:(kc != 0)=true:=by rw [← hkc];exact bne_iff_ne.2 h0
    rw [hkc] at HC
    clear hkc h0
    clear Gx
    obtain ⟨lvx,acx,olx,⟨px,qx,sx⟩,gx⟩:=xx
    simp only at Ax Bx hrx HC
    obtain ⟨oax,ocx,rfl,oix,ojx,okx,_⟩:=Ax.some_at
    obtain ⟨rax,rcx,rfl,rix,rjx,rkx,_⟩:=Bx.some_at
    obtain ⟨nox,hnox⟩:∃ m,olx.length=m:=⟨_,rfl⟩
    obtain ⟨ngx,hngx⟩:∃ m,gx.length=m:=⟨_,rfl⟩
    obtain ⟨ah,ch,rfl,ih,jh,kh,HCh⟩:=Th.reads
    obtain ⟨n,hn⟩:∃ n,h.length=n:=⟨_,rfl⟩
    simp only [hnox,hngx,hn] at HF hrx HC ⊢
    have j1:¬ (200:Int) < (ngx:Int):=by omega
    clear hnox hngx hn Ax Bx Th HCh
    have X_t:=SBox.new w 28 #[.int .i64 lvx,.bool acx,.slice oax nox ocx,.int .i64 px,.int .i64 qx,.int .i64 sx,.slice rax ngx rcx]
    have B_t:=Below.alloc (Below.refl w.heap.size w) (Below.size (Below.refl w.heap.size w)) (.cells #[.int .i64 lvx,.bool acx,.slice oax nox ocx,.int .i64 px,.int .i64 qx,.int .i64 sx,.slice rax ngx rcx] 28)
    go_enter Tryz.func4,Tryz.ntmps4
    have f_t0_0:=X_t.cell 0 _ rfl
    have f_t1_0:=X_t.cell 1 _ rfl
    have f_t2_0:=X_t.cell 2 _ rfl
    have f_t3_0:=X_t.cell 3 _ rfl
    have f_t4_0:=X_t.cell 4 _ rfl
    have f_t5_0:=X_t.cell 5 _ rfl
    have f_t6_0:=X_t.cell 6 _ rfl
    go_wp2_with fail
    refine (HSh.out _ B_t).mono ?_
    rintro e w1 ⟨rfl,b1⟩
    have B1:=bel_trans B_t b1
    clear f_t0_0 f_t1_0 f_t2_0 f_t3_0 f_t4_0 f_t5_0 f_t6_0
    replace X_t:=X_t.below b1
    have f_t0_1:=X_t.cell 0 _ rfl
    have f_t1_1:=X_t.cell 1 _ rfl
    have f_t2_1:=X_t.cell 2 _ rfl
    have f_t3_1:=X_t.cell 3 _ rfl
    have f_t4_1:=X_t.cell 4 _ rfl
    have f_t5_1:=X_t.cell 5 _ rfl
    have f_t6_1:=X_t.cell 6 _ rfl
    go_wp2_with fail
    refine (HF.out _ B1).mono ?_
    rintro e w2 ⟨rfl,b2⟩
    have B2:=bel_trans B1 b2
    clear f_t0_1 f_t1_1 f_t2_1 f_t3_1 f_t4_1 f_t5_1 f_t6_1
    replace X_t:=X_t.below b2
    have f_t0_2:=X_t.cell 0 _ rfl
    have f_t1_2:=X_t.cell 1 _ rfl
    have f_t2_2:=X_t.cell 2 _ rfl
    have f_t3_2:=X_t.cell 3 _ rfl
    have f_t4_2:=X_t.cell 4 _ rfl
    have f_t5_2:=X_t.cell 5 _ rfl
    have f_t6_2:=X_t.cell 6 _ rfl
    go_wp2_with fail
    refine (HC.out _ B2).mono ?_
    rintro e w3 ⟨rfl,b3⟩
    have B3:=bel_trans B2 b3
    clear f_t0_2 f_t1_2 f_t2_2 f_t3_2 f_t4_2 f_t5_2 f_t6_2
    replace X_t:=X_t.below b3
    have f_t0_3:=X_t.cell 0 _ rfl
    have f_t1_3:=X_t.cell 1 _ rfl
    have f_t2_3:=X_t.cell 2 _ rfl
    have f_t3_3:=X_t.cell 3 _ rfl
    have f_t4_3:=X_t.cell 4 _ rfl
    have f_t5_3:=X_t.cell 5 _ rfl
    have f_t6_3:=X_t.cell 6 _ rfl
    go_wp2_with fail
    go_ret
    exact ⟨rfl,B3⟩
  ·skip
   clear Gx
   obtain ⟨lvx,acx,olx,⟨px,qx,sx⟩,gx⟩:=xx
   simp only at Ax Bx hrx
   obtain ⟨oax,ocx,rfl,oix,ojx,okx,_⟩:=Ax.some_at
   obtain ⟨rax,rcx,rfl,rix,rjx,rkx,_⟩:=Bx.some_at
   obtain ⟨nox,hnox⟩:∃ m,olx.length=m:=⟨_,rfl⟩
   obtain ⟨ngx,hngx⟩:∃ m,gx.length=m:=⟨_,rfl⟩
   obtain ⟨ah,ch,rfl,ih,jh,kh,HCh⟩:=Th.reads
   obtain ⟨n,hn⟩:∃ n,h.length=n:=⟨_,rfl⟩
   simp only [hnox,hngx,hn] at HF hrx ⊢
   have j1:(200:Int) < (ngx:Int):=by omega
   clear hnox hngx hn Ax Bx Th HCh
   have X_t:=SBox.new w 28 #[.int .i64 lvx,.bool acx,.slice oax nox ocx,.int .i64 px,.int .i64 qx,.int .i64 sx,.slice rax ngx rcx]
   have B_t:=Below.alloc (Below.refl w.heap.size w) (Below.size (Below.refl w.heap.size w)) (.cells #[.int .i64 lvx,.bool acx,.slice oax nox ocx,.int .i64 px,.int .i64 qx,.int .i64 sx,.slice rax ngx rcx] 28)
   go_enter Tryz.func4,Tryz.ntmps4
   have f_t0_0:=X_t.cell 0 _ rfl
   have f_t1_0:=X_t.cell 1 _ rfl
   have f_t2_0:=X_t.cell 2 _ rfl
   have f_t3_0:=X_t.cell 3 _ rfl
   have f_t4_0:=X_t.cell 4 _ rfl
   have f_t5_0:=X_t.cell 5 _ rfl
   have f_t6_0:=X_t.cell 6 _ rfl
   go_wp2_with fail
   refine (HSh.out _ B_t).mono ?_
   rintro e w1 ⟨rfl,b1⟩
   have B1:=bel_trans B_t b1
   clear f_t0_0 f_t1_0 f_t2_0 f_t3_0 f_t4_0 f_t5_0 f_t6_0
   replace X_t:=X_t.below b1
   have f_t0_1:=X_t.cell 0 _ rfl
   have f_t1_1:=X_t.cell 1 _ rfl
   have f_t2_1:=X_t.cell 2 _ rfl
   have f_t3_1:=X_t.cell 3 _ rfl
   have f_t4_1:=X_t.cell 4 _ rfl
   have f_t5_1:=X_t.cell 5 _ rfl
   have f_t6_1:=X_t.cell 6 _ rfl
   go_wp2_with fail
   refine (HF.out _ B1).mono ?_
   rintro e w2 ⟨rfl,b2⟩
   have B2:=bel_trans B1 b2
   clear f_t0_1 f_t1_1 f_t2_1 f_t3_1 f_t4_1 f_t5_1 f_t6_1
   replace X_t:=X_t.below b2
   have f_t0_2:=X_t.cell 0 _ rfl
   have f_t1_2:=X_t.cell 1 _ rfl
   have f_t2_2:=X_t.cell 2 _ rfl
   have f_t3_2:=X_t.cell 3 _ rfl
   have f_t4_2:=X_t.cell 4 _ rfl
   have f_t5_2:=X_t.cell 5 _ rfl
   have f_t6_2:=X_t.cell 6 _ rfl
   go_wp2_with fail
   go_ret
   exact ⟨rfl,B2⟩
 ·rw [decide_eq_false h1] at HF
  clear Gx
  obtain ⟨lvx,acx,olx,⟨px,qx,sx⟩,gx⟩:=xx
  simp only at Ax Bx
  obtain ⟨oax,ocx,rfl,oix,ojx,okx,_⟩:=Ax.some_at
  obtain ⟨rax,rcx,rfl,rix,rjx,rkx,_⟩:=Bx.some_at
  obtain ⟨nox,hnox⟩:∃ m,olx.length=m:=⟨_,rfl⟩
  obtain ⟨ngx,hngx⟩:∃ m,gx.length=m:=⟨_,rfl⟩
  obtain ⟨ah,ch,rfl,ih,jh,kh,HCh⟩:=Th.reads
  obtain ⟨n,hn⟩:∃ n,h.length=n:=⟨_,rfl⟩
  simp only [hnox,hngx,hn] at HF ⊢
  clear hnox hngx hn Ax Bx Th HCh
  have X_t:=SBox.new w 28 #[.int .i64 lvx,.bool acx,.slice oax nox ocx,.int .i64 px,.int .i64 qx,.int .i64 sx,.slice rax ngx rcx]
  have B_t:=Below.alloc (Below.refl w.heap.size w) (Below.size (Below.refl w.heap.size w)) (.cells #[.int .i64 lvx,.bool acx,.slice oax nox ocx,.int .i64 px,.int .i64 qx,.int .i64 sx,.slice rax ngx rcx] 28)
  go_enter Tryz.func4,Tryz.ntmps4
  have f_t0_0:=X_t.cell 0 _ rfl
  have f_t1_0:=X_t.cell 1 _ rfl
  have f_t2_0:=X_t.cell 2 _ rfl
  have f_t3_0:=X_t.cell 3 _ rfl
  have f_t4_0:=X_t.cell 4 _ rfl
  have f_t5_0:=X_t.cell 5 _ rfl
  have f_t6_0:=X_t.cell 6 _ rfl
  go_wp2_with fail
  refine (HSh.out _ B_t).mono ?_
  rintro e w1 ⟨rfl,b1⟩
  have B1:=bel_trans B_t b1
  clear f_t0_0 f_t1_0 f_t2_0 f_t3_0 f_t4_0 f_t5_0 f_t6_0
  replace X_t:=X_t.below b1
  have f_t0_1:=X_t.cell 0 _ rfl
  have f_t1_1:=X_t.cell 1 _ rfl
  have f_t2_1:=X_t.cell 2 _ rfl
  have f_t3_1:=X_t.cell 3 _ rfl
  have f_t4_1:=X_t.cell 4 _ rfl
  have f_t5_1:=X_t.cell 5 _ rfl
  have f_t6_1:=X_t.cell 6 _ rfl
  go_wp2_with fail
  refine (HF.out _ B1).mono ?_
  rintro e w2 ⟨rfl,b2⟩
  have B2:=bel_trans B1 b2
  clear f_t0_1 f_t1_1 f_t2_1 f_t3_1 f_t4_1 f_t5_1 f_t6_1
  replace X_t:=X_t.below b2
  have f_t0_2:=X_t.cell 0 _ rfl
  have f_t1_2:=X_t.cell 1 _ rfl
  have f_t2_2:=X_t.cell 2 _ rfl
  have f_t3_2:=X_t.cell 3 _ rfl
  have f_t4_2:=X_t.cell 4 _ rfl
  have f_t5_2:=X_t.cell 5 _ rfl
  have f_t6_2:=X_t.cell 6 _ rfl
  go_wp2_with fail
  go_ret
  exact ⟨rfl,B2⟩
end Go.Proofs.YtdlcimfifkhllaaGreat
