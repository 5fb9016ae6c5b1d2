/-
  The walk of CheckTells.
-/
import Derived.Test.YtdlcimfifkhllaaGreatSCheckTellsR13Check
namespace Go.Proofs.YtdlcimfifkhllaaGreat
set_option maxRecDepth 100000
open Go.RowKit
set_option linter.unusedVariables false
attribute [local go_sem] ba_size
set_option maxHeartbeats 8000000 in
theorem tells13_walk (C:P13C) (w:World) (vh:Value) (h:List Ev) (Th:IsEvs w vh h) (Gh:∀ x∈h,goodE x) (xx:Vd) (ox rx:Value) (Ax:IsInts w ox xx.2.2.1) (Bx:IsEds w rx xx.2.2.2.2) (Gx:okV xx) :
 Calls Tryz.prog 3 #[vh,.agg (vdC xx ox rx)] w fun e w'=>e=.returned (.bool true)∧Below w.heap.size w w':=by
 have HSh:Hid (∀ W,Below w.heap.size w W→Calls Tryz.prog 10 #[] W fun e w'=>e=.returned (.bool true)∧Below W.heap.size W w'):=fun W h=>shown13_any C W
 have HF:Hid (∀ W,Below w.heap.size w W→Calls Tryz.prog 11 #[vh] W fun e w'=>e=.returned (.bool (decide (fewK h)))∧Below W.heap.size W w'):=fun W hb=>few13_any vh h W (Th.below hb)
 by_cases h1:fewK h
 ·rw [decide_eq_true h1] at HF
  have hn3:h.length≤300:=by have:=h1.2;omega
  by_cases hrx:xx.2.2.2.2.length≤200
  ·by_cases hox:xx.2.2.1.length≤200
   ·skip
    have HC:Hid (∀ W,Below w.heap.size w W→Calls Tryz.prog 12 #[vh,.agg (vdC xx ox rx)] W fun e w'=>e=.returned (.int .i64 (checkV h xx))∧Below W.heap.size W w'):=fun W hb=>C.check h vh ox rx xx W (Th.below hb) Gh h1.few Gx (Ax.below hb) (Bx.below hb) (by omega)
    have RC:Hid (∀ W,Below w.heap.size w W→Calls Tryz.prog 13 #[vh,.agg (vdC xx ox rx)] W fun e w'=>e=.returned (.int .i64 (checkV h xx))∧Below W.heap.size W w'):=fun W hb=>rcheck13_any h vh ox rx xx W (Th.below hb) (Ax.below hb) (Bx.below hb)
    have HA:Hid (∀ W,Below w.heap.size w W→Calls Tryz.prog 14 #[vh,.int .i64 xx.1,ox] W fun e w'=>e=.returned (.bool (aheadB h xx.1 xx.2.2.1))∧Below W.heap.size W w'):=fun W hb=>C.ahead h vh ox xx.1 xx.2.2.1 W (Th.below hb) Gh h1.few Gx.1 Gx.2.2.1 (Ax.below hb) Gx.2.2.2.2
    have RA:Hid (∀ W,Below w.heap.size w W→Calls Tryz.prog 15 #[vh,.int .i64 xx.1,ox] W fun e w'=>e=.returned (.bool (aheadB h xx.1 xx.2.2.1))∧Below W.heap.size W w'):=fun W hb=>rahead_any h vh ox xx.1 xx.2.2.1 W (Th.below hb) (Ax.below hb) hn3 (fun x hx=>by have:=Gh x hx;unfold goodE at this;omega)
    have HR:Hid (∀ W,Below w.heap.size w W→Calls Tryz.prog 16 #[vh,.int .i64 xx.1,rx] W fun e w'=>e=.returned (.bool (roundB h xx.1 xx.2.2.2.2))∧Below W.heap.size W w'):=fun W hb=>C.round h vh rx xx.1 xx.2.2.2.2 W (Th.below hb) Gh h1.few Gx.1 Gx.2.2.2.1 (Bx.below hb) (by omega)
    have RR:Hid (∀ W,Below w.heap.size w W→Calls Tryz.prog 17 #[vh,.int .i64 xx.1,rx] W fun e w'=>e=.returned (.bool (roundB h xx.1 xx.2.2.2.2))∧Below W.heap.size W w'):=fun W hb=>rround_any h vh rx xx.1 xx.2.2.2.2 W (Th.below hb) (Bx.below hb)
    clear Gx
    obtain ⟨lvx,acx,olx,⟨px,qx,sx⟩,gx⟩:=xx
    simp only at Ax Bx HC RC HA RA HR RR hrx hox
    obtain ⟨oax,ocx,rfl,oix,ojx,okx,_⟩:=Ax.some_at
    obtain ⟨rax,rcx,rfl,rix,rjx,rkx,_⟩:=Bx.some_at
    obtain ⟨nox,hnox⟩:∃ m,olx.length=m:=⟨_,rfl⟩
    obtain ⟨ngx,hngx⟩:∃ m,gx.length=m:=⟨_,rfl⟩
    obtain ⟨kc,hkc⟩:∃ y,checkV h (lvx,acx,olx,(px,qx,sx),gx)=y:=⟨_,rfl⟩
    obtain ⟨ka,hka⟩:∃ y,aheadB h lvx olx=y:=⟨_,rfl⟩
    obtain ⟨kr,hkr⟩:∃ y,roundB h lvx gx=y:=⟨_,rfl⟩
    obtain ⟨ah,ch,rfl,ih,jh,kh,HCh⟩:=Th.reads
    obtain ⟨n,hn⟩:∃ n,h.length=n:=⟨_,rfl⟩
    simp only [hkc,hka,hkr,hnox,hngx,hn] at HC RC HA RA HR RR HF hrx hox ⊢
    have e_c:(kc==kc)=true:=beq_self_eq_true _
    have e_a:(ka==ka)=true:=beq_self_eq_true _
    have e_r:(kr==kr)=true:=beq_self_eq_true _
    have j1:¬ (200:Int) < (ngx:Int):=by omega
    have j2:¬ (200:Int) < (nox:Int):=by omega
    clear hkc hka hkr hnox hngx hn Ax Bx Th HCh
    have X_t:=SBox.new w 28 #[.int .i64 lvx,.bool acx,.slice oax nox ocx,.int .i64 px,.int .i64 qx,.int .i64 sx,.slice rax ngx rcx]
    have B_t:=Below.alloc (Below.refl w.heap.size w) (Below.size (Below.refl w.heap.size w)) (.cells #[.int .i64 lvx,.bool acx,.slice oax nox ocx,.int .i64 px,.int .i64 qx,.int .i64 sx,.slice rax ngx rcx] 28)
    go_enter Tryz.func3,Tryz.ntmps3
    have f_t0_0:=X_t.cell 0 _ rfl
    have f_t1_0:=X_t.cell 1 _ rfl
    have f_t2_0:=X_t.cell 2 _ rfl
    have f_t3_0:=X_t.cell 3 _ rfl
    have f_t4_0:=X_t.cell 4 _ rfl
    have f_t5_0:=X_t.cell 5 _ rfl
    have f_t6_0:=X_t.cell 6 _ rfl
    go_wp2_with fail
    refine (HSh.out _ B_t).mono ?_
    rintro e w1 ⟨rfl,b1⟩
    have B1:=bel_trans B_t b1
    clear f_t0_0 f_t1_0 f_t2_0 f_t3_0 f_t4_0 f_t5_0 f_t6_0
    replace X_t:=X_t.below b1
    have f_t0_1:=X_t.cell 0 _ rfl
    have f_t1_1:=X_t.cell 1 _ rfl
    have f_t2_1:=X_t.cell 2 _ rfl
    have f_t3_1:=X_t.cell 3 _ rfl
    have f_t4_1:=X_t.cell 4 _ rfl
    have f_t5_1:=X_t.cell 5 _ rfl
    have f_t6_1:=X_t.cell 6 _ rfl
    go_wp2_with fail
    refine (HF.out _ B1).mono ?_
    rintro e w2 ⟨rfl,b2⟩
    have B2:=bel_trans B1 b2
    clear f_t0_1 f_t1_1 f_t2_1 f_t3_1 f_t4_1 f_t5_1 f_t6_1
    replace X_t:=X_t.below b2
    have f_t0_2:=X_t.cell 0 _ rfl
    have f_t1_2:=X_t.cell 1 _ rfl
    have f_t2_2:=X_t.cell 2 _ rfl
    have f_t3_2:=X_t.cell 3 _ rfl
    have f_t4_2:=X_t.cell 4 _ rfl
    have f_t5_2:=X_t.cell 5 _ rfl
    have f_t6_2:=X_t.cell 6 _ rfl
    have S0:(fun V=>Below w.heap.size w V∧V.cell? ⟨w.heap.size,0,none⟩=some (.int .i64 lvx)∧V.cell? ⟨w.heap.size,1,none⟩=some (.bool acx)∧V.cell? ⟨w.heap.size,2,none⟩=some (.slice oax nox ocx)∧V.cell? ⟨w.heap.size,3,none⟩=some (.int .i64 px)∧V.cell? ⟨w.heap.size,4,none⟩=some (.int .i64 qx)∧V.cell? ⟨w.heap.size,5,none⟩=some (.int .i64 sx)∧V.cell? ⟨w.heap.size,6,none⟩=some (.slice rax ngx rcx)) (w2).drew:=⟨B2.drew,f_t0_2,f_t1_2,f_t2_2,f_t3_2,f_t4_2,f_t5_2,f_t6_2⟩
    have keepS:∀ V V':World,(fun V=>Below w.heap.size w V∧V.cell? ⟨w.heap.size,0,none⟩=some (.int .i64 lvx)∧V.cell? ⟨w.heap.size,1,none⟩=some (.bool acx)∧V.cell? ⟨w.heap.size,2,none⟩=some (.slice oax nox ocx)∧V.cell? ⟨w.heap.size,3,none⟩=some (.int .i64 px)∧V.cell? ⟨w.heap.size,4,none⟩=some (.int .i64 qx)∧V.cell? ⟨w.heap.size,5,none⟩=some (.int .i64 sx)∧V.cell? ⟨w.heap.size,6,none⟩=some (.slice rax ngx rcx)) V→Below V.heap.size V V'→(fun V=>Below w.heap.size w V∧V.cell? ⟨w.heap.size,0,none⟩=some (.int .i64 lvx)∧V.cell? ⟨w.heap.size,1,none⟩=some (.bool acx)∧V.cell? ⟨w.heap.size,2,none⟩=some (.slice oax nox ocx)∧V.cell? ⟨w.heap.size,3,none⟩=some (.int .i64 px)∧V.cell? ⟨w.heap.size,4,none⟩=some (.int .i64 qx)∧V.cell? ⟨w.heap.size,5,none⟩=some (.int .i64 sx)∧V.cell? ⟨w.heap.size,6,none⟩=some (.slice rax ngx rcx)) V':=fun V V' ⟨h,a0,a1,a2,a3,a4,a5,a6⟩ b=>⟨bel_trans h b,cell_bel b a0,cell_bel b a1,cell_bel b a2,cell_bel b a3,cell_bel b a4,cell_bel b a5,cell_bel b a6⟩
    go_wp2_with fail
    go_region_held3 (fun V=>Below w.heap.size w V∧V.cell? ⟨w.heap.size,0,none⟩=some (.int .i64 lvx)∧V.cell? ⟨w.heap.size,1,none⟩=some (.bool acx)∧V.cell? ⟨w.heap.size,2,none⟩=some (.slice oax nox ocx)∧V.cell? ⟨w.heap.size,3,none⟩=some (.int .i64 px)∧V.cell? ⟨w.heap.size,4,none⟩=some (.int .i64 qx)∧V.cell? ⟨w.heap.size,5,none⟩=some (.int .i64 sx)∧V.cell? ⟨w.heap.size,6,none⟩=some (.slice rax ngx rcx)) (first | exact S0 | exact keepS _ _ (by assumption) (by assumption)) (first | (go_at_call 12;refine (HC.out _ (And.left (by assumption))).mono ?_;rintro e w' ⟨rfl,bb⟩) | (go_at_call 13;refine (RC.out _ (And.left (by assumption))).mono ?_;rintro e w' ⟨rfl,bb⟩) | (go_at_call 14;refine (HA.out _ (And.left (by assumption))).mono ?_;rintro e w' ⟨rfl,bb⟩) | (go_at_call 15;refine (RA.out _ (And.left (by assumption))).mono ?_;rintro e w' ⟨rfl,bb⟩) | (go_at_call 16;refine (HR.out _ (And.left (by assumption))).mono ?_;rintro e w' ⟨rfl,bb⟩) | (go_at_call 17;refine (RR.out _ (And.left (by assumption))).mono ?_;rintro e w' ⟨rfl,bb⟩))
    go_wp2_with fail
    go_ret
    exact ⟨rfl,And.left (by assumption)⟩
   ·skip
    clear Gx
    obtain ⟨lvx,acx,olx,⟨px,qx,sx⟩,gx⟩:=xx
    simp only at Ax Bx hrx hox
    obtain ⟨oax,ocx,rfl,oix,ojx,okx,_⟩:=Ax.some_at
    obtain ⟨rax,rcx,rfl,rix,rjx,rkx,_⟩:=Bx.some_at
    obtain ⟨nox,hnox⟩:∃ m,olx.length=m:=⟨_,rfl⟩
    obtain ⟨ngx,hngx⟩:∃ m,gx.length=m:=⟨_,rfl⟩
    obtain ⟨ah,ch,rfl,ih,jh,kh,HCh⟩:=Th.reads
    obtain ⟨n,hn⟩:∃ n,h.length=n:=⟨_,rfl⟩
    simp only [hnox,hngx,hn] at HF hrx hox ⊢
    have j1:¬ (200:Int) < (ngx:Int):=by omega
    have j2:(200:Int) < (nox:Int):=by omega
    clear hnox hngx hn Ax Bx Th HCh
    have X_t:=SBox.new w 28 #[.int .i64 lvx,.bool acx,.slice oax nox ocx,.int .i64 px,.int .i64 qx,.int .i64 sx,.slice rax ngx rcx]
    have B_t:=Below.alloc (Below.refl w.heap.size w) (Below.size (Below.refl w.heap.size w)) (.cells #[.int .i64 lvx,.bool acx,.slice oax nox ocx,.int .i64 px,.int .i64 qx,.int .i64 sx,.slice rax ngx rcx] 28)
    go_enter Tryz.func3,Tryz.ntmps3
    have f_t0_0:=X_t.cell 0 _ rfl
    have f_t1_0:=X_t.cell 1 _ rfl
    have f_t2_0:=X_t.cell 2 _ rfl
    have f_t3_0:=X_t.cell 3 _ rfl
    have f_t4_0:=X_t.cell 4 _ rfl
    have f_t5_0:=X_t.cell 5 _ rfl
    have f_t6_0:=X_t.cell 6 _ rfl
    go_wp2_with fail
    refine (HSh.out _ B_t).mono ?_
    rintro e w1 ⟨rfl,b1⟩
    have B1:=bel_trans B_t b1
    clear f_t0_0 f_t1_0 f_t2_0 f_t3_0 f_t4_0 f_t5_0 f_t6_0
    replace X_t:=X_t.below b1
    have f_t0_1:=X_t.cell 0 _ rfl
    have f_t1_1:=X_t.cell 1 _ rfl
    have f_t2_1:=X_t.cell 2 _ rfl
    have f_t3_1:=X_t.cell 3 _ rfl
    have f_t4_1:=X_t.cell 4 _ rfl
    have f_t5_1:=X_t.cell 5 _ rfl
    have f_t6_1:=X_t.cell 6 _ rfl
    go_wp2_with fail
    refine (HF.out _ B1).mono ?_
    rintro e w2 ⟨rfl,b2⟩
    have B2:=bel_trans B1 b2
    clear f_t0_1 f_t1_1 f_t2_1 f_t3_1 f_t4_1 f_t5_1 f_t6_1
    replace X_t:=X_t.below b2
    have f_t0_2:=X_t.cell 0 _ rfl
    have f_t1_2:=X_t.cell 1 _ rfl
    have f_t2_2:=X_t.cell 2 _ rfl
    have f_t3_2:=X_t.cell 3 _ rfl
    have f_t4_2:=X_t.cell 4 _ rfl
    have f_t5_2:=X_t.cell 5 _ rfl
    have f_t6_2:=X_t.cell 6 _ rfl
    go_wp2_with fail
    go_ret
    exact ⟨rfl,B2⟩
  ·skip
   clear Gx
   obtain ⟨lvx,acx,olx,⟨px,qx,sx⟩,gx⟩:=xx
   simp only at Ax Bx hrx
   obtain ⟨oax,ocx,rfl,oix,ojx,okx,_⟩:=Ax.some_at
   obtain ⟨rax,rcx,rfl,rix,rjx,rkx,_⟩:=Bx.some_at
   obtain ⟨nox,hnox⟩:∃ m,olx.length=m:=⟨_,rfl⟩
   obtain ⟨ngx,hngx⟩:∃ m,gx.length=m:=⟨_,rfl⟩
   obtain ⟨ah,ch,rfl,ih,jh,kh,HCh⟩:=Th.reads
   obtain ⟨n,hn⟩:∃ n,h.length=n:=⟨_,rfl⟩
   simp only [hnox,hngx,hn] at HF hrx ⊢
   have j1:(200:Int) < (ngx:Int):=by omega
   clear hnox hngx hn Ax Bx Th HCh
   have X_t:=SBox.new w 28 #[.int .i64 lvx,.bool acx,.slice oax nox ocx,.int .i64 px,.int .i64 qx,.int .i64 sx,.slice rax ngx rcx]
   have B_t:=Below.alloc (Below.refl w.heap.size w) (Below.size (Below.refl w.heap.size w)) (.cells #[.int .i64 lvx,.bool acx,.slice oax nox ocx,.int .i64 px,.int .i64 qx,.int .i64 sx,.slice rax ngx rcx] 28)
   go_enter Tryz.func3,Tryz.ntmps3
   have f_t0_0:=X_t.cell 0 _ rfl
   have f_t1_0:=X_t.cell 1 _ rfl
   have f_t2_0:=X_t.cell 2 _ rfl
   have f_t3_0:=X_t.cell 3 _ rfl
   have f_t4_0:=X_t.cell 4 _ rfl
   have f_t5_0:=X_t.cell 5 _ rfl
   have f_t6_0:=X_t.cell 6 _ rfl
   go_wp2_with fail
   refine (HSh.out _ B_t).mono ?_
   rintro e w1 ⟨rfl,b1⟩
   have B1:=bel_trans B_t b1
   clear f_t0_0 f_t1_0 f_t2_0 f_t3_0 f_t4_0 f_t5_0 f_t6_0
   replace X_t:=X_t.below b1
   have f_t0_1:=X_t.cell 0 _ rfl
   have f_t1_1:=X_t.cell 1 _ rfl
   have f_t2_1:=X_t.cell 2 _ rfl
   have f_t3_1:=X_t.cell 3 _ rfl
   have f_t4_1:=X_t.cell 4 _ rfl
   have f_t5_1:=X_t.cell 5 _ rfl
   have f_t6_1:=X_t.cell 6 _ rfl
   go_wp2_with fail
   refine (HF.out _ B1).mono ?_
   rintro e w2 ⟨rfl,b2⟩
   have B2:=bel_trans B1 b2
   clear f_t0_1 f_t1_1 f_t2_1 f_t3_1 f_t4_1 f_t5_1 f_t6_1
   replace X_t:=X_t.below b2
   have f_t0_2:=X_t.cell 0 _ rfl
   have f_t1_2:=X_t.cell 1 _ rfl
   have f_t2_2:=X_t.cell 2 _ rfl
   have f_t3_2:=X_t.cell 3 _ rfl
   have f_t4_2:=X_t.cell 4 _ rfl
   have f_t5_2:=X_t.cell 5 _ rfl
   have f_t6_2:=X_t.cell 6 _ rfl
   go_wp2_with fail
   go_ret
   exact ⟨rfl,B2⟩
 ·rw [decide_eq_false h1] at HF
  clear Gx
  obtain ⟨lvx,acx,olx,⟨px,qx,sx⟩,gx⟩:=xx
  simp only at Ax Bx
  obtain ⟨oax,ocx,rfl,oix,ojx,okx,_⟩:=Ax.some_at
  obtain ⟨rax,rcx,rfl,rix,rjx,rkx,_⟩:=Bx.some_at
  obtain ⟨nox,hnox⟩:∃ m,olx.length=m:=⟨_,rfl⟩
  obtain ⟨ngx,hngx⟩:∃ m,gx.length=m:=⟨_,rfl⟩
  obtain ⟨ah,ch,rfl,ih,jh,kh,HCh⟩:=Th.reads
  obtain ⟨n,hn⟩:∃ n,h.length=n:=⟨_,rfl⟩
  simp only [hnox,hngx,hn] at HF ⊢
  clear hnox hngx hn Ax Bx Th HCh
  have X_t:=SBox.new w 28 #[.int .i64 lvx,.bool acx,.slice oax nox ocx,.int .i64 px,.int .i64 qx,.int .i64 sx,.slice rax ngx rcx]
  have B_t:=Below.alloc (Below.refl w.heap.size w) (Below.size (Below.refl w.heap.size w)) (.cells #[.int .i64 lvx,.bool acx,.slice oax nox ocx,.int .i64 px,.int .i64 qx,.int .i64 sx,.slice rax ngx rcx] 28)
  go_enter Tryz.func3,Tryz.ntmps3
  have f_t0_0:=X_t.cell 0 _ rfl
  have f_t1_0:=X_t.cell 1 _ rfl
  have f_t2_0:=X_t.cell 2 _ rfl
  have f_t3_0:=X_t.cell 3 _ rfl
  have f_t4_0:=X_t.cell 4 _ rfl
  have f_t5_0:=X_t.cell 5 _ rfl
  have f_t6_0:=X_t.cell 6 _ rfl
  go_wp2_with fail
  refine (HSh.out _ B_t).mono ?_
  rintro e w1 ⟨rfl,b1⟩
  have B1:=bel_trans B_t b1
  clear f_t0_0 f_t1_0 f_t2_0 f_t3_0 f_t4_0 f_t5_0 f_t6_0
  replace X_t:=X_t.below b1
  have f_t0_1:=X_t.cell 0 _ rfl
  have f_t1_1:=X_t.cell 1 _ rfl
  have f_t2_1:=X_t.cell 2 _ rfl
  have f_t3_1:=X_t.cell 3 _ rfl
  have f_t4_1:=X_t.cell 4 _ rfl
  have f_t5_1:=X_t.cell 5 _ rfl
  have f_t6_1:=X_t.cell 6 _ rfl
  go_wp2_with fail
  refine (HF.out _ B1).mono ?_
  rintro e w2 ⟨rfl,b2⟩
  have B2:=bel_trans B1 b2
  clear f_t0_1 f_t1_1 f_t2_1 f_t3_1 f_t4_1 f_t5_1 f_t6_1
  replace X_t:=X_t.below b2
  have f_t0_2:=X_t.cell 0 _ rfl
  have f_t1_2:=X_t.cell 1 _ rfl
  have f_t2_2:=X_t.cell 2 _ rfl
  have f_t3_2:=X_t.cell 3 _ rfl
  have f_t4_2:=X_t.cell 4 _ rfl
  have f_t5_2:=X_t.cell 5 _ rfl
  have f_t6_2:=X_t.cell 6 _ rfl
  go_wp2_with fail
  go_ret
  exact ⟨rfl,B2⟩
end Go.Proofs.YtdlcimfifkhllaaGreat
