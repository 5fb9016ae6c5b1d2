/-
  What cartoucheref02.Block answers (last: true).
-/
import Derived.Test.YthamoeekiglphaaGreatDoorEL0d
namespace Go.Proofs.YthamoeekiglphaaGreatDoor
set_option maxRecDepth 100000
open Go.RowKit
set_option linter.unusedVariables false
attribute [local go_sem] ba_size ba_get wrap_byte wrap_u64_byte wrap_u32_byte wv_get wv_getE wv_set wv_size
theorem rsize8_true:(Tryz.prog.info? 99).map (·.size)=some 8:=by kernel_rfl
theorem rsize16_true:(Tryz.prog.info? 162).map (·.size)=some 16:=by kernel_rfl
set_option maxRecDepth 100000 in
set_option maxHeartbeats 8000000 in
theorem rblock_true (H:List Int) (hH:H.length=8) (B:List UInt8) (hB:B.length=64) (t:Nat) (ht:t < 18446744073709551616) (w:World) :
 Calls Tryz.prog 90 #[.agg (wv H),.string ⟨B.toArray⟩,.int .u64 t,.bool true] w fun e w'=>e=.returned (.tuple #[.agg (wv (blockL H B t true)),.int .i64 0])∧Below w.heap.size w w':=by
 have hHs:(wv H).size=8:=by rw [wv_size,hH]
 have s8:=rsize8_true;have s16:=rsize16_true;go_enter Tryz.func90,Tryz.ntmps90
 go_wp2
 go_loopw [11] (fun i wr=>∃ k:Nat,k≤16∧i=.int .i64 k∧Hid (Row wr w.heap.size 99 H)∧Hid (Row wr (w.heap.size+1) 99 Z8)∧Hid (Row wr (w.heap.size+1+1) 162 (mp B k))∧Hid (wr.heap.size=w.heap.size+3)∧Below w.heap.size w wr) (fun i _=>16 - (RowKit.intOf i).toNat)
 case atStart =>
  refine ⟨0,by omega,rfl,?_,?_,?_,?_,(((Below.refl _ _).alloc (Nat.le_refl _) _).alloc (by simp) _).alloc (by simp;omega) _⟩
  ·exact ((Row.new w H 99).alloc _).alloc _
  ·exact (heap_alloc_old _ _ (by simp)).trans (heap_alloc2_new w _ _)
  ·have h:=heap_alloc_new ((w.alloc (.cells (wv H) 99)).alloc (.cells (wv Z8) 99)) (.cells (wv (mp B 0)) 162)
   simp only [World.size_alloc] at h;exact h
  ·show _=_
   simp
 case round =>
  obtain ⟨k,hk,rfl,HR1,HR2,HR3,HS,hbw⟩:=hrel
  by_cases hlt:k < 16
  ·have i0:(k:Int) < 16:=by omega
   have hl3:=mp_len B k;have c3:=HR3.out.cell k (by omega);have f3:=HR3.out.frozen k;have b0:=B[4*k].toNat_lt;have b1:=B[4*k+1].toNat_lt;have b2:=B[4*k+2].toNat_lt;have b3:=B[4*k+3].toNat_lt;have e0:IntKind.i64.wrap (4*(k:Int))=4*(k:Int):=by rw [IntKind.wrap_i64];omega
   have e1:IntKind.i64.wrap (4*(k:Int)+1)=4*(k:Int)+1:=by rw [IntKind.wrap_i64];omega
   have e2:IntKind.i64.wrap (4*(k:Int)+2)=4*(k:Int)+2:=by rw [IntKind.wrap_i64];omega
   have e3:IntKind.i64.wrap (4*(k:Int)+3)=4*(k:Int)+3:=by rw [IntKind.wrap_i64];omega
   have n0:(4*(k:Int)).toNat=4*k:=by omega
   have n1:(4*(k:Int)+1).toNat=4*k+1:=by omega
   have n2:(4*(k:Int)+2).toNat=4*k+2:=by omega
   have n3:(4*(k:Int)+3).toNat=4*k+3:=by omega
   have p0:(0:Int)≤4*(k:Int):=by omega
   have p1:(0:Int)≤4*(k:Int)+1:=by omega
   have p2:(0:Int)≤4*(k:Int)+2:=by omega
   have p3:(0:Int)≤4*(k:Int)+3:=by omega
   have l0:4*(k:Int) < 64:=by omega
   have l1:4*(k:Int)+1 < 64:=by omega
   have l2:4*(k:Int)+2 < 64:=by omega
   have l3:4*(k:Int)+3 < 64:=by omega
   have s1:IntKind.u32.wrap (256*(B[4*k+1].toNat:Int))=256*(B[4*k+1].toNat:Int):=by rw [IntKind.wrap_u32'];omega
   have s2:IntKind.u32.wrap (65536*(B[4*k+2].toNat:Int))=65536*(B[4*k+2].toNat:Int):=by rw [IntKind.wrap_u32'];omega
   have s3:IntKind.u32.wrap (16777216*(B[4*k+3].toNat:Int))=16777216*(B[4*k+3].toNat:Int):=by rw [IntKind.wrap_u32'];omega
   have a1:IntKind.u32.wrap ((B[4*k].toNat:Int)+256*(B[4*k+1].toNat:Int))=(B[4*k].toNat:Int)+256*(B[4*k+1].toNat:Int):=by rw [IntKind.wrap_u32'];omega
   have a2:IntKind.u32.wrap ((B[4*k].toNat:Int)+256*(B[4*k+1].toNat:Int)+65536*(B[4*k+2].toNat:Int))=(B[4*k].toNat:Int)+256*(B[4*k+1].toNat:Int)+65536*(B[4*k+2].toNat:Int):=by rw [IntKind.wrap_u32'];omega
   have a3:IntKind.u32.wrap ((B[4*k].toNat:Int)+256*(B[4*k+1].toNat:Int)+65536*(B[4*k+2].toNat:Int)+16777216*(B[4*k+3].toNat:Int))=wd B k:=by
    rw [IntKind.wrap_u32'];have g0:=bt_eq B (4*k) (by omega);have g1:=bt_eq B (4*k+1) (by omega);have g2:=bt_eq B (4*k+2) (by omega);have g3:=bt_eq B (4*k+3) (by omega);unfold wd;rw [g0,g1,g2,g3];have q0:=bt_lt B (4*k);have q1:=bt_lt B (4*k+1);have q2:=bt_lt B (4*k+2);have q3:=bt_lt B (4*k+3);omega
   go_wp2_with fail
   refine region_tail 31 (by kernel_rfl) (by kernel_rfl) ?_;simp only [List.take_succ_cons,List.take_zero,List.drop_succ_cons,List.drop_zero]
   repeat still_step
   refine wpStill_nil ?_;go_wp2_with fail
   go_roundw
   case rel=>exact ⟨k+1,by omega,by go_num,(HR1.out.other _ _ _ (by omega)).drew,(HR2.out.other _ _ _ (by omega)).drew,by rw [← mp_set B k];exact (HR3.out.set k (wd B k)).drew,by have:=HS.out;show _=_;simpa using this,(hbw.setCell (by simp;omega) _).drew⟩
   case measure=>simp [RowKit.intOf];omega
  ·obtain rfl:k=16:=by omega
   have hm16:=mp_len B 16;obtain ⟨M,hM⟩:∃ M,mp B 16=M:=⟨_,rfl⟩;rw [hM] at HR3 hm16;have hsz:=HS.out;go_wp2_with fail
   refine (first_any _).mono ?_;rintro e w1 ⟨⟨gf,rfl,hgf,hrf⟩,hb1⟩;have gfl:=hrf.lt;have hH1:=HR1.out.below hb1;have hZ1:=HR2.out.below hb1;have hM1:=HR3.out.below hb1;have hbw1:=bel_trans hbw hb1;have hs1:=hb1.size;clear hb1 HR1 HR2 HR3 HS;obtain ⟨gv,hgv⟩:∃ gv,w1.heap.size=gv:=⟨_,rfl⟩;go_upto_region 10 with fail
   change Code.wp _ _ _ _ (w1.alloc (.cells (wv Z16) 162));have hV2:Row (w1.alloc (.cells (wv Z16) 162)) gv 162 (sp H 0):=by rw [sp_zero,← hgv];exact Row.new w1 Z16 162
   have hF2:=hrf.alloc (.cells (wv Z16) 162);have q2:Q5 162 99 w (w1.alloc (.cells (wv Z16) 162)) gv (w.heap.size+1+1) w.heap.size (w.heap.size+1) (sp H 0) M H:=⟨hV2,hM1.alloc _,hH1.alloc _,hZ1.alloc _,hbw1.alloc hbw1.size _⟩;obtain ⟨w2,hw2⟩:∃ w2,w1.alloc (.cells (wv Z16) 162)=w2:=⟨_,rfl⟩;rw [hw2] at hF2 q2 ⊢;have n1:w.heap.size+3≤gf:=by omega
   have n2:gf < gv:=by omega
   try simp only [hgv]
   clear hw2 hgv hV2 hrf hM1 hH1 hZ1 hbw1 hs1 hbw hsz hgf gfl;obtain ⟨gH,hgH⟩:∃ gH,w.heap.size=gH:=⟨_,rfl⟩;obtain ⟨gZ,hgZ⟩:∃ gZ,w.heap.size+1=gZ:=⟨_,rfl⟩;obtain ⟨gm,hgm⟩:∃ gm,w.heap.size+1+1=gm:=⟨_,rfl⟩;have n3:gH≠gv∧gZ≠gv∧gm≠gv∧gH≠gZ∧w.heap.size≤gH∧w.heap.size≤gZ∧w.heap.size≤gm∧w.heap.size≤gv∧gf≠gv∧gH≠gm∧gZ≠gm:=by omega
   rw [hgm,hgZ,hgH] at q2
   try simp only [hgm]
   try simp only [hgZ]
   try simp only [hgH]
   clear hgH hgZ hgm n1 n2;obtain ⟨m1,m2,m3,m4,m5,m6,m7,m8,m9,m10,m11⟩:=n3;go_wp2_with fail
   go_loopw [14] (fun i wr=>∃ k:Nat,k≤8∧i=.int .i64 k∧Hid (Row wr gf 98 firstL)∧Hid (Q5 162 99 w wr gv gm gH gZ (sp H k) M H)) (fun i _=>8 - (RowKit.intOf i).toNat)
   case atStart=>exact ⟨0,by omega,rfl,hF2,q2⟩
   case round =>
    obtain ⟨k,hk,rfl,HF,HQ⟩:=hrel
    by_cases hlt:k < 8
    ·have i0:(k:Int) < 8:=by omega
     have i1:(k:Int) < 16:=by omega
     have i2:(k:Int)+8 < 16:=by omega
     have hl3:=sp_len H k;have c0:wr.cell? ⟨gf,k,none⟩=some (.int .u32 (at_ firstL k)):=by rw [HF.out.cell k (by simpa [firstL] using hlt),at_eq]
     have c1:wr.cell? ⟨gH,k,none⟩=some (.int .u32 (at_ H k)):=by rw [HQ.out.h.cell k (by omega),at_eq]
     have c3:wr.cell? ⟨gv,k,none⟩=some (.int .u32 (at_ (sp H k) k)):=by rw [HQ.out.v.cell k (by omega),at_eq]
     have f3:=HQ.out.v.frozen k;have c4:wr.cell? ⟨gv,k+8,none⟩=some (.int .u32 (at_ (sp H k) (k+8))):=by rw [HQ.out.v.cell (k+8) (by omega),at_eq]
     have f4:=HQ.out.v.frozen (k+8);go_wp2_with fail
     refine ⟨?rel2,?measure2⟩
     case rel2 =>
      have q:=HQ.out;refine ⟨k+1,by omega,by go_num,(HF.out.other _ _ _ m9).other _ _ _ m9,⟨?_,(q.m.other _ _ _ m3).other _ _ _ m3,(q.h.other _ _ _ m1).other _ _ _ m1,(q.z.other _ _ _ m2).other _ _ _ m2,(q.b.setCell (by simpa using m8) _).setCell (by simpa using m8) _⟩⟩;rw [← sp_set H k hlt];exact (q.v.set k _).set (k+8) _
     case measure2=>simp [RowKit.intOf];omega
    ·obtain rfl:k=8:=by omega
     have hl3:=sp_len H 8;have c12:wr.cell? ⟨gv,12,none⟩=some (.int .u32 (at_ (sp H 8) 12)):=by rw [HQ.out.v.cell 12 (by omega),at_eq]
     have c13:wr.cell? ⟨gv,13,none⟩=some (.int .u32 (at_ (sp H 8) 13)):=by rw [HQ.out.v.cell 13 (by omega),at_eq]
     have c14:wr.cell? ⟨gv,14,none⟩=some (.int .u32 (at_ (sp H 8) 14)):=by rw [HQ.out.v.cell 14 (by omega),at_eq]
     have f12:=HQ.out.v.frozen 12;have f13:=HQ.out.v.frozen 13;have f14:=HQ.out.v.frozen 14;have q:=HQ.out;go_upto_region 19 with fail
     change Code.wp _ _ _ _ (((wr.setCell ⟨gv,12,none⟩ (.int .u32 (bits .xor .u32 (at_ (sp H 8) 12) ((t:Int) % 4294967296)))).setCell ⟨gv,13,none⟩ (.int .u32 (bits .xor .u32 (at_ (sp H 8) 13) ((t:Int) / 4294967296)))).setCell ⟨gv,14,none⟩ (.int .u32 (bits .xor .u32 (at_ (sp H 8) 14) 4294967295)));obtain ⟨w3,hw3⟩:∃ w3,((wr.setCell ⟨gv,12,none⟩ (.int .u32 (bits .xor .u32 (at_ (sp H 8) 12) ((t:Int) % 4294967296)))).setCell ⟨gv,13,none⟩ (.int .u32 (bits .xor .u32 (at_ (sp H 8) 13) ((t:Int) / 4294967296)))).setCell ⟨gv,14,none⟩ (.int .u32 (bits .xor .u32 (at_ (sp H 8) 14) 4294967295))=w3:=⟨_,rfl⟩
     have q3:Q5 162 99 w w3 gv gm gH gZ (spreadL H t true) M H:=by
      rw [← hw3];exact ⟨((q.v.set 12 _).set 13 _).set 14 _,((q.m.other _ _ _ m3).other _ _ _ m3).other _ _ _ m3,((q.h.other _ _ _ m1).other _ _ _ m1).other _ _ _ m1,((q.z.other _ _ _ m2).other _ _ _ m2).other _ _ _ m2,((q.b.setCell (by simpa using m8) _).setCell (by simpa using m8) _).setCell (by simpa using m8) _⟩
     obtain ⟨V0,hV0⟩:∃ V0,spreadL H t true=V0:=⟨_,rfl⟩;have lV0:=spreadL_len H t true;have hbl':Hid (blockL H B t true=hx H (vr B V0 10) 8):=by rw [← hV0];exact rfl
     rw [hV0] at q3 lV0;rw [hw3];clear hw3 HQ HF q2 hF2 hV0 q c12 c13 c14 f12 f13 f14 hl3;go_wp2_with fail
     go_loopw [15] (fun i wr=>∃ r:Nat,r≤10∧i=.int .i64 r∧Hid (Q5 162 99 w wr gv gm gH gZ (vr B V0 r) M H)) (fun i _=>10 - (RowKit.intOf i).toNat)
     case atStart=>exact ⟨0,by omega,rfl,q3⟩
     case round =>
      obtain ⟨r,hr,rfl,HQ⟩:=hrel
      by_cases hlt:r < 10
      ·have i0:(r:Int) < 10:=by omega
       have lV:=vr_len B V0 lV0 r;have lO:=ordL_len r hlt;have hvr:vr B V0 (r+1)=rk M (vr B V0 r) (sg r) 8:=by rw [← hM];rfl
       have hoc:=fun w1=>order_any r hlt w1
       obtain ⟨O,hO⟩:∃ O,ordL r=O:=⟨_,rfl⟩;obtain ⟨s,hs⟩:∃ s,sg r=s:=⟨_,rfl⟩;obtain ⟨V,hV⟩:∃ V,vr B V0 r=V:=⟨_,rfl⟩;have hOg:∀ i (h:i < O.length),O[i]'h=fig (s i):=by intro i h;subst hO;subst hs;exact ordL_get r i hlt h
       have hsl:∀ i,i < 16→s i < 16:=by intro i h;subst hs;exact sg_lt r i hlt h
       rw [hO] at hoc lO;rw [hs] at hvr;rw [hV] at lV HQ hvr;clear hs hO hV;have HV:Hid (vr B V0 (r+1)=rk M V s 8):=hvr;clear hvr;go_wp2_with fail
       refine (hoc _).mono ?_;rintro e w4 ⟨rfl,hb4⟩;have q4:=HQ.out.below hb4;have hs4:=q4.v.lt;have hs4m:=q4.m.lt;have hs4h:=q4.h.lt;have hs4z:=q4.z.lt;go_upto_region 24 with fail
       change Code.wp _ _ _ _ (w4.alloc (.cells (wv Z16) 162));obtain ⟨gw,hgw⟩:∃ gw,w4.heap.size=gw:=⟨_,rfl⟩;have hW5:Row (w4.alloc (.cells (wv Z16) 162)) gw 162 (wl M s 0):=by rw [wl_zero,← hgw];exact Row.new w4 Z16 162
       have q5:=q4.alloc (.cells (wv Z16) 162);obtain ⟨w5,hw5⟩:∃ w5,w4.alloc (.cells (wv Z16) 162)=w5:=⟨_,rfl⟩;have o1:gv≠gw∧gm≠gw∧gH≠gw∧gZ≠gw∧w.heap.size≤gw:=by omega
       rw [hw5] at hW5 q5 ⊢
       try simp only [hgw]
       clear hw5 hgw q4 hb4 hs4 hs4m hs4h hs4z HQ;obtain ⟨o0,o1,o2,o3,o4⟩:=o1;go_wp2_with fail
       go_loopw [18] (fun i wq=>∃ j:Nat,j≤16∧i=.int .i64 j∧Hid (Row wq gw 162 (wl M s j))∧Hid (Q5 162 99 w wq gv gm gH gZ V M H)) (fun i _=>16 - (RowKit.intOf i).toNat)
       case atStart=>exact ⟨0,by omega,rfl,hW5,q5⟩
       case round =>
        obtain ⟨j,hj,rfl,HW,HQ⟩:=hrel
        by_cases hlt2:j < 16
        ·have i1:(j:Int) < 16:=by omega
         have hl3:=wl_len M s j;have hOj:=hOg j (by omega);have hsj:=hsl j hlt2;have hfig:=fun w1=>figure_any (s j) hsj w1
         have c0:wr.cell? ⟨gm,s j,none⟩=some (.int .u32 (at_ M (s j))):=by rw [HQ.out.m.cell (s j) (by omega),at_eq]
         have c1:wr.cell? ⟨gw,j,none⟩=some (.int .u32 (at_ (wl M s j) j)):=by rw [HW.out.cell j (by omega),at_eq]
         have f1:=HW.out.frozen j;have i2:(s j:Int) < 16:=by omega
         go_wp2_with fail
         refine (hfig _).mono ?_;rintro e w6 ⟨rfl,rfl⟩;go_wp2_with fail
         refine ⟨?rel4,?measure4⟩
         case rel4 =>
          refine ⟨j+1,by omega,by go_num,?_,HQ.out.other _ _ _ o0 o1 o2 o3 o4⟩;rw [← wl_set M s j];exact HW.out.set j _
         case measure4=>simp [RowKit.intOf];omega
        ·obtain rfl:j=16:=by omega
         have hW:=HW.out;have q:=HQ.out;have hlw:=wl_len M s 16;have k0:rk M V s 0=V:=rfl;clear HW HQ hW5 q5 hOg hsl hoc;have c0a:(wr).cell? ⟨gw,0,none⟩=some (.int .u32 (at_ M (s 0))):=by rw [hW.cell 0 (by omega),at_eq,wl_at M s 0 (by omega)]
         have c0b:(wr).cell? ⟨gw,1,none⟩=some (.int .u32 (at_ M (s 1))):=by rw [hW.cell 1 (by omega),at_eq,wl_at M s 1 (by omega)]
         have hsz0:(Tryz.prog.info? 162).map (·.size)=some (wv V).size:=by rw [s16,wv_size,lV]
         have hrow0:(wr).heap[gv]?=some (.cells (wv V) 162 (0,0)):=q.v;have hmx0:=fun w1=>mix_any V lV 0 4 8 12 (by omega) (by omega) (by omega) (by omega) (at_ M (s 0)) (at_ M (s 1)) w1
         have k1:=rk_step M V s 0 V k0;have lV1:=mixL_len V 0 4 8 12 (at_ M (s 0)) (at_ M (s 1)) lV;change rk M V s 1=mixL V 0 4 8 12 (at_ M (s 0)) (at_ M (s 1)) at k1;obtain ⟨V1,hV1⟩:∃ X,mixL V 0 4 8 12 (at_ M (s 0)) (at_ M (s 1))=X:=⟨_,rfl⟩;rw [hV1] at lV1 k1;simp only [hV1] at hmx0;clear hV1 k0;go_wp2_with (refine wpList_load_row rfl 162 _ rfl gv rfl 162 (wv V) (0,0) _ hrow0 Tryz.underlying162 rfl hsz0 ?_)
         refine (hmx0 _).mono ?_;rintro e wb0 ⟨rfl,hb⟩;have hW0:=hW.below hb;have q0b:=q.below hb;have hrow0b:(wb0).heap[gv]?=some (.cells (wv V) 162 (0,0)):=q0b.v;have hszn0:(Tryz.prog.info? 162).map (·.size)=some (wv V1).size:=by rw [s16,wv_size,lV1]
         go_upto_region 29 with (refine wpList_store_row rfl 162 _ _ rfl gv (wv V1) rfl rfl 162 (wv V) hrow0b hszn0 (by rw [wv_size,wv_size,lV,lV1]) (wv_one _) ?_)
         change Code.wp _ _ _ _ ((wb0).setRow gv (wv V1));have hWn0:=hW0.setRow_other gv (wv V1) (Ne.symm o0);have qn0:=q0b.setV V1 m3 m1 m2 m8;obtain ⟨wc0,hwc⟩:∃ x,(wb0).setRow gv (wv V1)=x:=⟨_,rfl⟩;rw [hwc] at hWn0 qn0 ⊢;clear hwc hb hW hW0 q q0b hrow0 hrow0b hsz0 hszn0 hmx0 c0a c0b lV
         rename Row wc0 gw _ _=>hW
         rename Q5 _ _ _ wc0 _ _ _ _ _ _ _=>q
         rename (V1).length=16=>lV
         have c1a:(wc0).cell? ⟨gw,2,none⟩=some (.int .u32 (at_ M (s 2))):=by rw [hW.cell 2 (by omega),at_eq,wl_at M s 2 (by omega)]
         have c1b:(wc0).cell? ⟨gw,3,none⟩=some (.int .u32 (at_ M (s 3))):=by rw [hW.cell 3 (by omega),at_eq,wl_at M s 3 (by omega)]
         have hsz1:(Tryz.prog.info? 162).map (·.size)=some (wv V1).size:=by rw [s16,wv_size,lV]
         have hrow1:(wc0).heap[gv]?=some (.cells (wv V1) 162 (0,0)):=q.v;have hmx1:=fun w1=>mix_any V1 lV 1 5 9 13 (by omega) (by omega) (by omega) (by omega) (at_ M (s 2)) (at_ M (s 3)) w1
         have k2:=rk_step M V s 1 V1 k1;have lV2:=mixL_len V1 1 5 9 13 (at_ M (s 2)) (at_ M (s 3)) lV;change rk M V s 2=mixL V1 1 5 9 13 (at_ M (s 2)) (at_ M (s 3)) at k2;obtain ⟨V2,hV2⟩:∃ X,mixL V1 1 5 9 13 (at_ M (s 2)) (at_ M (s 3))=X:=⟨_,rfl⟩;rw [hV2] at lV2 k2;simp only [hV2] at hmx1;clear hV2 k1;go_wp2_with (refine wpList_load_row rfl 162 _ rfl gv rfl 162 (wv V1) (0,0) _ hrow1 Tryz.underlying162 rfl hsz1 ?_)
         refine (hmx1 _).mono ?_;rintro e wb1 ⟨rfl,hb⟩;have hW1:=hW.below hb;have q1b:=q.below hb;have hrow1b:(wb1).heap[gv]?=some (.cells (wv V1) 162 (0,0)):=q1b.v;have hszn1:(Tryz.prog.info? 162).map (·.size)=some (wv V2).size:=by rw [s16,wv_size,lV2]
         go_upto_region 30 with (refine wpList_store_row rfl 162 _ _ rfl gv (wv V2) rfl rfl 162 (wv V1) hrow1b hszn1 (by rw [wv_size,wv_size,lV,lV2]) (wv_one _) ?_)
         change Code.wp _ _ _ _ ((wb1).setRow gv (wv V2));have hWn1:=hW1.setRow_other gv (wv V2) (Ne.symm o0);have qn1:=q1b.setV V2 m3 m1 m2 m8;obtain ⟨wc1,hwc⟩:∃ x,(wb1).setRow gv (wv V2)=x:=⟨_,rfl⟩;rw [hwc] at hWn1 qn1 ⊢;clear hwc hb hW hW1 q q1b hrow1 hrow1b hsz1 hszn1 hmx1 c1a c1b lV
         rename Row wc1 gw _ _=>hW
         rename Q5 _ _ _ wc1 _ _ _ _ _ _ _=>q
         rename (V2).length=16=>lV
         have c2a:(wc1).cell? ⟨gw,4,none⟩=some (.int .u32 (at_ M (s 4))):=by rw [hW.cell 4 (by omega),at_eq,wl_at M s 4 (by omega)]
         have c2b:(wc1).cell? ⟨gw,5,none⟩=some (.int .u32 (at_ M (s 5))):=by rw [hW.cell 5 (by omega),at_eq,wl_at M s 5 (by omega)]
         have hsz2:(Tryz.prog.info? 162).map (·.size)=some (wv V2).size:=by rw [s16,wv_size,lV]
         have hrow2:(wc1).heap[gv]?=some (.cells (wv V2) 162 (0,0)):=q.v;have hmx2:=fun w1=>mix_any V2 lV 2 6 10 14 (by omega) (by omega) (by omega) (by omega) (at_ M (s 4)) (at_ M (s 5)) w1
         have k3:=rk_step M V s 2 V2 k2;have lV3:=mixL_len V2 2 6 10 14 (at_ M (s 4)) (at_ M (s 5)) lV;change rk M V s 3=mixL V2 2 6 10 14 (at_ M (s 4)) (at_ M (s 5)) at k3;obtain ⟨V3,hV3⟩:∃ X,mixL V2 2 6 10 14 (at_ M (s 4)) (at_ M (s 5))=X:=⟨_,rfl⟩;rw [hV3] at lV3 k3;simp only [hV3] at hmx2;clear hV3 k2;go_wp2_with (refine wpList_load_row rfl 162 _ rfl gv rfl 162 (wv V2) (0,0) _ hrow2 Tryz.underlying162 rfl hsz2 ?_)
         refine (hmx2 _).mono ?_;rintro e wb2 ⟨rfl,hb⟩;have hW2:=hW.below hb;have q2b:=q.below hb;have hrow2b:(wb2).heap[gv]?=some (.cells (wv V2) 162 (0,0)):=q2b.v;have hszn2:(Tryz.prog.info? 162).map (·.size)=some (wv V3).size:=by rw [s16,wv_size,lV3]
         go_upto_region 31 with (refine wpList_store_row rfl 162 _ _ rfl gv (wv V3) rfl rfl 162 (wv V2) hrow2b hszn2 (by rw [wv_size,wv_size,lV,lV3]) (wv_one _) ?_)
         change Code.wp _ _ _ _ ((wb2).setRow gv (wv V3));have hWn2:=hW2.setRow_other gv (wv V3) (Ne.symm o0);have qn2:=q2b.setV V3 m3 m1 m2 m8;obtain ⟨wc2,hwc⟩:∃ x,(wb2).setRow gv (wv V3)=x:=⟨_,rfl⟩;rw [hwc] at hWn2 qn2 ⊢;clear hwc hb hW hW2 q q2b hrow2 hrow2b hsz2 hszn2 hmx2 c2a c2b lV
         rename Row wc2 gw _ _=>hW
         rename Q5 _ _ _ wc2 _ _ _ _ _ _ _=>q
         rename (V3).length=16=>lV
         have c3a:(wc2).cell? ⟨gw,6,none⟩=some (.int .u32 (at_ M (s 6))):=by rw [hW.cell 6 (by omega),at_eq,wl_at M s 6 (by omega)]
         have c3b:(wc2).cell? ⟨gw,7,none⟩=some (.int .u32 (at_ M (s 7))):=by rw [hW.cell 7 (by omega),at_eq,wl_at M s 7 (by omega)]
         have hsz3:(Tryz.prog.info? 162).map (·.size)=some (wv V3).size:=by rw [s16,wv_size,lV]
         have hrow3:(wc2).heap[gv]?=some (.cells (wv V3) 162 (0,0)):=q.v;have hmx3:=fun w1=>mix_any V3 lV 3 7 11 15 (by omega) (by omega) (by omega) (by omega) (at_ M (s 6)) (at_ M (s 7)) w1
         have k4:=rk_step M V s 3 V3 k3;have lV4:=mixL_len V3 3 7 11 15 (at_ M (s 6)) (at_ M (s 7)) lV;change rk M V s 4=mixL V3 3 7 11 15 (at_ M (s 6)) (at_ M (s 7)) at k4;obtain ⟨V4,hV4⟩:∃ X,mixL V3 3 7 11 15 (at_ M (s 6)) (at_ M (s 7))=X:=⟨_,rfl⟩;rw [hV4] at lV4 k4;simp only [hV4] at hmx3;clear hV4 k3;go_wp2_with (refine wpList_load_row rfl 162 _ rfl gv rfl 162 (wv V3) (0,0) _ hrow3 Tryz.underlying162 rfl hsz3 ?_)
         refine (hmx3 _).mono ?_;rintro e wb3 ⟨rfl,hb⟩;have hW3:=hW.below hb;have q3b:=q.below hb;have hrow3b:(wb3).heap[gv]?=some (.cells (wv V3) 162 (0,0)):=q3b.v;have hszn3:(Tryz.prog.info? 162).map (·.size)=some (wv V4).size:=by rw [s16,wv_size,lV4]
         go_upto_region 32 with (refine wpList_store_row rfl 162 _ _ rfl gv (wv V4) rfl rfl 162 (wv V3) hrow3b hszn3 (by rw [wv_size,wv_size,lV,lV4]) (wv_one _) ?_)
         change Code.wp _ _ _ _ ((wb3).setRow gv (wv V4));have hWn3:=hW3.setRow_other gv (wv V4) (Ne.symm o0);have qn3:=q3b.setV V4 m3 m1 m2 m8;obtain ⟨wc3,hwc⟩:∃ x,(wb3).setRow gv (wv V4)=x:=⟨_,rfl⟩;rw [hwc] at hWn3 qn3 ⊢;clear hwc hb hW hW3 q q3b hrow3 hrow3b hsz3 hszn3 hmx3 c3a c3b lV
         rename Row wc3 gw _ _=>hW
         rename Q5 _ _ _ wc3 _ _ _ _ _ _ _=>q
         rename (V4).length=16=>lV
         have c4a:(wc3).cell? ⟨gw,8,none⟩=some (.int .u32 (at_ M (s 8))):=by rw [hW.cell 8 (by omega),at_eq,wl_at M s 8 (by omega)]
         have c4b:(wc3).cell? ⟨gw,9,none⟩=some (.int .u32 (at_ M (s 9))):=by rw [hW.cell 9 (by omega),at_eq,wl_at M s 9 (by omega)]
         have hsz4:(Tryz.prog.info? 162).map (·.size)=some (wv V4).size:=by rw [s16,wv_size,lV]
         have hrow4:(wc3).heap[gv]?=some (.cells (wv V4) 162 (0,0)):=q.v;have hmx4:=fun w1=>mix_any V4 lV 0 5 10 15 (by omega) (by omega) (by omega) (by omega) (at_ M (s 8)) (at_ M (s 9)) w1
         have k5:=rk_step M V s 4 V4 k4;have lV5:=mixL_len V4 0 5 10 15 (at_ M (s 8)) (at_ M (s 9)) lV;change rk M V s 5=mixL V4 0 5 10 15 (at_ M (s 8)) (at_ M (s 9)) at k5;obtain ⟨V5,hV5⟩:∃ X,mixL V4 0 5 10 15 (at_ M (s 8)) (at_ M (s 9))=X:=⟨_,rfl⟩;rw [hV5] at lV5 k5;simp only [hV5] at hmx4;clear hV5 k4;go_wp2_with (refine wpList_load_row rfl 162 _ rfl gv rfl 162 (wv V4) (0,0) _ hrow4 Tryz.underlying162 rfl hsz4 ?_)
         refine (hmx4 _).mono ?_;rintro e wb4 ⟨rfl,hb⟩;have hW4:=hW.below hb;have q4b:=q.below hb;have hrow4b:(wb4).heap[gv]?=some (.cells (wv V4) 162 (0,0)):=q4b.v;have hszn4:(Tryz.prog.info? 162).map (·.size)=some (wv V5).size:=by rw [s16,wv_size,lV5]
         go_upto_region 33 with (refine wpList_store_row rfl 162 _ _ rfl gv (wv V5) rfl rfl 162 (wv V4) hrow4b hszn4 (by rw [wv_size,wv_size,lV,lV5]) (wv_one _) ?_)
         change Code.wp _ _ _ _ ((wb4).setRow gv (wv V5));have hWn4:=hW4.setRow_other gv (wv V5) (Ne.symm o0);have qn4:=q4b.setV V5 m3 m1 m2 m8;obtain ⟨wc4,hwc⟩:∃ x,(wb4).setRow gv (wv V5)=x:=⟨_,rfl⟩;rw [hwc] at hWn4 qn4 ⊢;clear hwc hb hW hW4 q q4b hrow4 hrow4b hsz4 hszn4 hmx4 c4a c4b lV
         rename Row wc4 gw _ _=>hW
         rename Q5 _ _ _ wc4 _ _ _ _ _ _ _=>q
         rename (V5).length=16=>lV
         have c5a:(wc4).cell? ⟨gw,10,none⟩=some (.int .u32 (at_ M (s 10))):=by rw [hW.cell 10 (by omega),at_eq,wl_at M s 10 (by omega)]
         have c5b:(wc4).cell? ⟨gw,11,none⟩=some (.int .u32 (at_ M (s 11))):=by rw [hW.cell 11 (by omega),at_eq,wl_at M s 11 (by omega)]
         have hsz5:(Tryz.prog.info? 162).map (·.size)=some (wv V5).size:=by rw [s16,wv_size,lV]
         have hrow5:(wc4).heap[gv]?=some (.cells (wv V5) 162 (0,0)):=q.v;have hmx5:=fun w1=>mix_any V5 lV 1 6 11 12 (by omega) (by omega) (by omega) (by omega) (at_ M (s 10)) (at_ M (s 11)) w1
         have k6:=rk_step M V s 5 V5 k5;have lV6:=mixL_len V5 1 6 11 12 (at_ M (s 10)) (at_ M (s 11)) lV;change rk M V s 6=mixL V5 1 6 11 12 (at_ M (s 10)) (at_ M (s 11)) at k6;obtain ⟨V6,hV6⟩:∃ X,mixL V5 1 6 11 12 (at_ M (s 10)) (at_ M (s 11))=X:=⟨_,rfl⟩;rw [hV6] at lV6 k6;simp only [hV6] at hmx5;clear hV6 k5;go_wp2_with (refine wpList_load_row rfl 162 _ rfl gv rfl 162 (wv V5) (0,0) _ hrow5 Tryz.underlying162 rfl hsz5 ?_)
         refine (hmx5 _).mono ?_;rintro e wb5 ⟨rfl,hb⟩;have hW5:=hW.below hb;have q5b:=q.below hb;have hrow5b:(wb5).heap[gv]?=some (.cells (wv V5) 162 (0,0)):=q5b.v;have hszn5:(Tryz.prog.info? 162).map (·.size)=some (wv V6).size:=by rw [s16,wv_size,lV6]
         go_upto_region 34 with (refine wpList_store_row rfl 162 _ _ rfl gv (wv V6) rfl rfl 162 (wv V5) hrow5b hszn5 (by rw [wv_size,wv_size,lV,lV6]) (wv_one _) ?_)
         change Code.wp _ _ _ _ ((wb5).setRow gv (wv V6));have hWn5:=hW5.setRow_other gv (wv V6) (Ne.symm o0);have qn5:=q5b.setV V6 m3 m1 m2 m8;obtain ⟨wc5,hwc⟩:∃ x,(wb5).setRow gv (wv V6)=x:=⟨_,rfl⟩;rw [hwc] at hWn5 qn5 ⊢;clear hwc hb hW hW5 q q5b hrow5 hrow5b hsz5 hszn5 hmx5 c5a c5b lV
         rename Row wc5 gw _ _=>hW
         rename Q5 _ _ _ wc5 _ _ _ _ _ _ _=>q
         rename (V6).length=16=>lV
         have c6a:(wc5).cell? ⟨gw,12,none⟩=some (.int .u32 (at_ M (s 12))):=by rw [hW.cell 12 (by omega),at_eq,wl_at M s 12 (by omega)]
         have c6b:(wc5).cell? ⟨gw,13,none⟩=some (.int .u32 (at_ M (s 13))):=by rw [hW.cell 13 (by omega),at_eq,wl_at M s 13 (by omega)]
         have hsz6:(Tryz.prog.info? 162).map (·.size)=some (wv V6).size:=by rw [s16,wv_size,lV]
         have hrow6:(wc5).heap[gv]?=some (.cells (wv V6) 162 (0,0)):=q.v;have hmx6:=fun w1=>mix_any V6 lV 2 7 8 13 (by omega) (by omega) (by omega) (by omega) (at_ M (s 12)) (at_ M (s 13)) w1
         have k7:=rk_step M V s 6 V6 k6;have lV7:=mixL_len V6 2 7 8 13 (at_ M (s 12)) (at_ M (s 13)) lV;change rk M V s 7=mixL V6 2 7 8 13 (at_ M (s 12)) (at_ M (s 13)) at k7;obtain ⟨V7,hV7⟩:∃ X,mixL V6 2 7 8 13 (at_ M (s 12)) (at_ M (s 13))=X:=⟨_,rfl⟩;rw [hV7] at lV7 k7;simp only [hV7] at hmx6;clear hV7 k6;go_wp2_with (refine wpList_load_row rfl 162 _ rfl gv rfl 162 (wv V6) (0,0) _ hrow6 Tryz.underlying162 rfl hsz6 ?_)
         refine (hmx6 _).mono ?_;rintro e wb6 ⟨rfl,hb⟩;have hW6:=hW.below hb;have q6b:=q.below hb;have hrow6b:(wb6).heap[gv]?=some (.cells (wv V6) 162 (0,0)):=q6b.v;have hszn6:(Tryz.prog.info? 162).map (·.size)=some (wv V7).size:=by rw [s16,wv_size,lV7]
         go_upto_region 35 with (refine wpList_store_row rfl 162 _ _ rfl gv (wv V7) rfl rfl 162 (wv V6) hrow6b hszn6 (by rw [wv_size,wv_size,lV,lV7]) (wv_one _) ?_)
         change Code.wp _ _ _ _ ((wb6).setRow gv (wv V7));have hWn6:=hW6.setRow_other gv (wv V7) (Ne.symm o0);have qn6:=q6b.setV V7 m3 m1 m2 m8;obtain ⟨wc6,hwc⟩:∃ x,(wb6).setRow gv (wv V7)=x:=⟨_,rfl⟩;rw [hwc] at hWn6 qn6 ⊢;clear hwc hb hW hW6 q q6b hrow6 hrow6b hsz6 hszn6 hmx6 c6a c6b lV
         rename Row wc6 gw _ _=>hW
         rename Q5 _ _ _ wc6 _ _ _ _ _ _ _=>q
         rename (V7).length=16=>lV
         have c7a:(wc6).cell? ⟨gw,14,none⟩=some (.int .u32 (at_ M (s 14))):=by rw [hW.cell 14 (by omega),at_eq,wl_at M s 14 (by omega)]
         have c7b:(wc6).cell? ⟨gw,15,none⟩=some (.int .u32 (at_ M (s 15))):=by rw [hW.cell 15 (by omega),at_eq,wl_at M s 15 (by omega)]
         have hsz7:(Tryz.prog.info? 162).map (·.size)=some (wv V7).size:=by rw [s16,wv_size,lV]
         have hrow7:(wc6).heap[gv]?=some (.cells (wv V7) 162 (0,0)):=q.v;have hmx7:=fun w1=>mix_any V7 lV 3 4 9 14 (by omega) (by omega) (by omega) (by omega) (at_ M (s 14)) (at_ M (s 15)) w1
         have k8:=rk_step M V s 7 V7 k7;have lV8:=mixL_len V7 3 4 9 14 (at_ M (s 14)) (at_ M (s 15)) lV;change rk M V s 8=mixL V7 3 4 9 14 (at_ M (s 14)) (at_ M (s 15)) at k8;obtain ⟨V8,hV8⟩:∃ X,mixL V7 3 4 9 14 (at_ M (s 14)) (at_ M (s 15))=X:=⟨_,rfl⟩;rw [hV8] at lV8 k8;simp only [hV8] at hmx7;clear hV8 k7;go_wp2_with (refine wpList_load_row rfl 162 _ rfl gv rfl 162 (wv V7) (0,0) _ hrow7 Tryz.underlying162 rfl hsz7 ?_)
         refine (hmx7 _).mono ?_;rintro e wb7 ⟨rfl,hb⟩;have hW7:=hW.below hb;have q7b:=q.below hb;have hrow7b:(wb7).heap[gv]?=some (.cells (wv V7) 162 (0,0)):=q7b.v;have hszn7:(Tryz.prog.info? 162).map (·.size)=some (wv V8).size:=by rw [s16,wv_size,lV8]
         go_upto_region 21 with (refine wpList_store_row rfl 162 _ _ rfl gv (wv V8) rfl rfl 162 (wv V7) hrow7b hszn7 (by rw [wv_size,wv_size,lV,lV8]) (wv_one _) ?_)
         change Code.wp _ _ _ _ ((wb7).setRow gv (wv V8));have hWn7:=hW7.setRow_other gv (wv V8) (Ne.symm o0);have qn7:=q7b.setV V8 m3 m1 m2 m8;obtain ⟨wc7,hwc⟩:∃ x,(wb7).setRow gv (wv V8)=x:=⟨_,rfl⟩;rw [hwc] at hWn7 qn7 ⊢;clear hwc hb hW hW7 q q7b hrow7 hrow7b hsz7 hszn7 hmx7 c7a c7b lV
         rename Row wc7 gw _ _=>hW
         rename Q5 _ _ _ wc7 _ _ _ _ _ _ _=>q
         rename (V8).length=16=>lV
         go_wp2_with fail
         refine ⟨?_,?measure3⟩
         (repeat apply Exists.intro)
         refine ⟨?rel3,rfl⟩
         case rel3 =>
          refine ⟨r+1,by omega,by go_num,?_⟩;rw [HV.out,k8];exact q
         case measure3=>simp [RowKit.intOf];omega
      ·obtain rfl:r=10:=by omega
       have lV:=vr_len B V0 lV0 10;have hblV:blockL H B t true=hx H (vr B V0 10) 8:=hbl'.out;obtain ⟨V,hV⟩:∃ V,vr B V0 10=V:=⟨_,rfl⟩;rw [hV] at HQ lV hblV;have HB:Hid (blockL H B t true=hx H V 8):=hblV;clear hbl' hblV hV q3;go_wp2_with fail
       go_loopw [19] (fun i wq=>∃ k:Nat,k≤8∧i=.int .i64 k∧Hid (Q5 162 99 w wq gv gm gH gZ V M (hx H V k))) (fun i _=>8 - (RowKit.intOf i).toNat)
       case atStart=>exact ⟨0,by omega,rfl,by rw [hx_zero H V hH];exact HQ⟩
       case round =>
        obtain ⟨k,hk,rfl,HQ⟩:=hrel;have q:=HQ.out
        by_cases hlt2:k < 8
        ·have i0:(k:Int) < 8:=by omega
         have x0:IntKind.i64.wrap ((k:Int)+8)=(k:Int)+8:=by rw [IntKind.wrap_i64];omega
         have x1:((k:Int)+8).toNat=k+8:=by omega
         have x2:(k:Int)+8 < 16:=by omega
         have x3:(0:Int)≤(k:Int)+8:=by omega
         have x4:(k:Int) < 16:=by omega
         have lh:=hx_len H V k;have c0:wr.cell? ⟨gH,k,none⟩=some (.int .u32 (at_ H k)):=by rw [q.h.cell k (by omega),at_eq,hx_at H V k hlt2]
         have c1:wr.cell? ⟨gv,k,none⟩=some (.int .u32 (at_ V k)):=by rw [q.v.cell k (by omega),at_eq]
         have c2:wr.cell? ⟨gv,k+8,none⟩=some (.int .u32 (at_ V (k+8))):=by rw [q.v.cell (k+8) (by omega),at_eq]
         have f0:=q.h.frozen k;go_wp2_with fail
         refine region_tail 14 (by kernel_rfl) (by kernel_rfl) ?_;simp only [List.take_succ_cons,List.take_zero,List.drop_succ_cons,List.drop_zero]
         repeat still_step
         refine wpStill_nil ?_;go_wp2_with fail
         refine ⟨?_,?measure5⟩
         (repeat apply Exists.intro)
         refine ⟨?rel5,rfl⟩
         case rel5 =>
          refine ⟨k+1,by omega,by go_num,⟨(q.v.other _ _ _ (Ne.symm m1)).drew,(q.m.other _ _ _ (Ne.symm m10)).drew,?_,(q.z.other _ _ _ (Ne.symm m4)).drew,(q.b.setCell (by simpa using m5) _).drew⟩⟩;rw [← hx_set H V k _ (xor_assoc32 _ _ _)];exact (q.h.set k _).drew
         case measure5=>simp [RowKit.intOf];omega
        ·obtain rfl:k=8:=by omega
         have lh:=hx_len H V 8;obtain ⟨R,hRR⟩:∃ R,hx H V 8=R:=⟨_,rfl⟩;rw [hRR] at q lh HB;have hszR:(Tryz.prog.info? 99).map (·.size)=some (wv R).size:=by rw [s8,wv_size,lh]
         go_wp2_with (first | (refine wpList_load_row rfl 99 _ rfl gH rfl 99 (wv R) (0,0) _ q.h Tryz.underlying99 rfl hszR ?_) | (refine wpList_store_row rfl 99 _ _ rfl gZ (wv R) rfl rfl 99 (wv Z8) q.z hszR (by rw [wv_size,wv_size,lh];rfl) (wv_one _) ?_))
         refine bodyPost_ret (v:=.tuple #[.agg (wv R),.int .i64 0]) (results_row_tmp Tryz.results90 _ _ gZ 99 (wv R) (0,0) _ rfl ?_ Tryz.underlying99 rfl ?_) rfl ⟨by first | rfl | rw [HB.out],?_⟩
         ·exact setRow_heap _ _ _ _ _ _ q.z
         ·rw [s8,wv_size,lh]
         ·exact below_setRow q.b m6 _
end Go.Proofs.YthamoeekiglphaaGreatDoor
