/-
  What blake.Block answers. What blake.fold answers. All inputs of a row of texts, in the order in which they are summed: of no program. What is wanted of package
-/
import Derived.Test.YthamoeekiglphaaGreatDoorEP2Round
import Derived.Test.YthamoeekiglphaaGreatDoorER9At
import Derived.Test.YthamoeekiglphaaGreatDoorER2BlockT
import Derived.Test.YthamoeekiglphaaGreatDoorER2BlockF
import Derived.Test.YthamoeekiglphaaGreatDoorER14Want
import Derived.Test.YthamoeekiglphaaGreatDoorER14MayC
namespace Go.Proofs.YthamoeekiglphaaGreatDoor
set_option maxRecDepth 100000
open Go.RowKit
set_option linter.unusedVariables false
attribute [local go_sem] ba_size ba_get wv_get wv_getE wv_set wv_size
theorem fg_sg (r i:Nat) (hr:r < 10) (hi:i < 16):fg (ords.getD r 0) i=sg r i:=by
 have h:∀ r,r < 10→∀ i,i < 16→fg (ords.getD r 0) i=sg r i:=by decide +kernel
 exact h r hr i hi
theorem ords_lt (r:Nat):ords.getD r 0 < 18446744073709551616:=by
 have h:∀ r,r < 10→ords.getD r 0 < 18446744073709551616:=by decide
 rcases Nat.lt_or_ge r 10 with h' | h'
 ·exact h r h'
 ·simp [List.getD,List.getElem?_eq_none (show ords.length≤r from h')]
theorem size8:(Tryz.prog.info? 99).map (·.size)=some 8:=by kernel_rfl
theorem size16:(Tryz.prog.info? 162).map (·.size)=some 16:=by kernel_rfl
set_option maxHeartbeats 2000000 in
theorem block_good (H:List Int) (hH:H.length=8) (B:List UInt8) (hB:B.length=64) (t:Nat) (ht:t < 18446744073709551616) (last:Bool) (w:World) (hG:G w) :
 Calls Tryz.prog 134 #[.agg (wv H),.string ⟨B.toArray⟩,.int .u64 t,.bool last] w fun e w'=>e=.returned (.tuple #[.agg (wv (blockL H B t last)),.int .i64 0])∧Below w.heap.size w w':=by
 have hHs:(wv H).size=8:=by rw [wv_size,hH]
 have hB1:((B.length:Int) != 64)=false:=by simp;omega
 go_enter Tryz.func134,Tryz.ntmps134
 go_wp2_with fail
 refine (words_any B hB _).mono ?_;rintro e w1 ⟨rfl,hb1⟩;have hs1:w.heap.size+2≤w1.heap.size:=by have:=hb1.size;simpa using this
 have hH1:Row w1 w.heap.size 99 H:=(hb1.block _ (by simp;omega)).trans (heap_alloc2_old w _ _);have hZ1:Row w1 (w.heap.size+1) 99 Z8:=(hb1.block _ (by simp)).trans (heap_alloc2_new w _ _);have hbw1:Below w.heap.size w w1:=(((Below.refl _ _).alloc (Nat.le_refl _) _).alloc (by simp) _).trans (hb1.mono (by simp;omega));go_upto_region 4 with (refine wpList_store_row rfl 162 _ _ rfl w1.heap.size (wv (mp B 16)) rfl rfl 162 (wv Z16) ?hg1 ?hi1 ?ho1 ?h11 ?_)
 case hg1=>exact heap_alloc_new w1 _
 case hi1=>rw [size16,wv_size,mp_len]
 case ho1=>rw [wv_size,wv_size,mp_len];rfl
 case h11=>exact wv_one _
 change Code.wp _ _ _ _ ((w1.alloc (.cells (wv Z16) 162)).setRow w1.heap.size (wv (mp B 16)));obtain ⟨w2,hw2⟩:∃ w2,(w1.alloc (.cells (wv Z16) 162)).setRow w1.heap.size (wv (mp B 16))=w2:=⟨_,rfl⟩;have hM2:Row w2 w1.heap.size 162 (mp B 16):=by rw [← hw2];exact setRow_heap _ _ _ _ _ _ (heap_alloc_new w1 _)
 have hH2:Row w2 w.heap.size 99 H:=by rw [← hw2];exact (hH1.alloc _).setRow_other _ _ (by omega)
 have hZ2:Row w2 (w.heap.size+1) 99 Z8:=by rw [← hw2];exact (hZ1.alloc _).setRow_other _ _ (by omega)
 have hbw2:Below w.heap.size w w2:=by rw [← hw2];exact below_setRow (hbw1.alloc (by omega) _) (by omega) _
 have hs2:w1.heap.size < w2.heap.size:=hM2.lt;have hG2:G w2:=hG.below hbw2 hG.size;rw [hw2];clear hw2;go_wp2_with (refine wpList_load_row rfl 99 _ rfl w.heap.size rfl 99 (wv H) (0,0) _ ?hg3 Tryz.underlying99 rfl ?hi3 ?_)
 case hg3=>exact hH2
 case hi3=>rw [size8,hHs]
 refine (spread_any H hH t ht last _ hG2).mono ?_;rintro e w3 ⟨rfl,hb3⟩;have hs3:=hb3.size;have hM3:=hM2.below hb3;have hH3:=hH2.below hb3;have hZ3:=hZ2.below hb3;have hbw3:Below w.heap.size w w3:=hbw2.trans (hb3.mono (by omega));have lV:=spreadL_len H t last;obtain ⟨V0,hV0⟩:∃ V0,spreadL H t last=V0:=⟨_,rfl⟩;have hbl:blockL H B t last=hx H (vr B V0 10) 8:=by unfold blockL;rw [hV0]
 rw [hV0] at lV ⊢;go_upto_region 5 with (refine wpList_store_row rfl 162 _ _ rfl w3.heap.size (wv V0) rfl rfl 162 (wv Z16) ?hg4 ?hi4 ?ho4 ?h14 ?_)
 case hg4=>exact heap_alloc_new w3 _
 case hi4=>rw [size16,wv_size,lV]
 case ho4=>rw [wv_size,wv_size,lV];rfl
 case h14=>exact wv_one _
 change Code.wp _ _ _ _ ((w3.alloc (.cells (wv Z16) 162)).setRow w3.heap.size (wv V0));obtain ⟨w4,hw4⟩:∃ w4,(w3.alloc (.cells (wv Z16) 162)).setRow w3.heap.size (wv V0)=w4:=⟨_,rfl⟩;have hV4:Row w4 w3.heap.size 162 V0:=by rw [← hw4];exact setRow_heap _ _ _ _ _ _ (heap_alloc_new w3 _)
 have hM4:Row w4 w1.heap.size 162 (mp B 16):=by rw [← hw4];exact (hM3.alloc _).setRow_other _ _ (by omega)
 have hH4:Row w4 w.heap.size 99 H:=by rw [← hw4];exact (hH3.alloc _).setRow_other _ _ (by omega)
 have hZ4:Row w4 (w.heap.size+1) 99 Z8:=by rw [← hw4];exact (hZ3.alloc _).setRow_other _ _ (by omega)
 have hbw4:Below w.heap.size w w4:=by rw [← hw4];exact below_setRow (hbw3.alloc (by omega) _) (by omega) _
 rw [hw4];clear hw4 hb1 hb3 hM3 hH3 hZ3 hM2 hH2 hZ2;have hg3:=hG.size;obtain ⟨gm,hgm⟩:∃ gm,w1.heap.size=gm:=⟨_,rfl⟩;obtain ⟨gv,hgv⟩:∃ gv,w3.heap.size=gv:=⟨_,rfl⟩;have n1:w.heap.size+2≤gm:=by omega
 have n2:gm < gv:=by omega
 rw [hgm] at hM4;rw [hgv] at hV4;simp only [hgm,hgv];clear hs1 hs2 hs3 hbw1 hbw2 hbw3 hgm hgv;go_wp2_with fail
 go_loopw [26] (fun i wr=>∃ k:Nat,k≤10∧i=.int .i64 k∧Hid (Row wr gv 162 (vr B V0 k))∧Hid (Row wr gm 162 (mp B 16))∧Hid (Row wr w.heap.size 99 H)∧Hid (Row wr (w.heap.size+1) 99 Z8)∧Below w.heap.size w wr) (fun i _=>10 - (RowKit.intOf i).toNat)
 case atStart=>exact ⟨0,by omega,rfl,hV4,hM4,hH4,hZ4,hbw4⟩
 case round =>
  obtain ⟨k,hk,rfl,HV,HM,HH,HZ,hbw⟩:=hrel
  by_cases hlt:k < 10
  ·have i0:(k:Int) < 10:=by omega
   have hGr:G wr:=hG.below hbw hg3;have co:=hGr.ord k hlt;obtain ⟨o,ho⟩:∃ o,ords.getD k 0=o:=⟨_,rfl⟩;have hol:o < 18446744073709551616:=by rw [← ho];exact ords_lt k
   rw [ho] at co;have hR:=round_any o hol (mp B 16) (vr B V0 k) (mp_len B 16) (vr_len B V0 lV k) gm gv (by omega) wr hGr (by omega) HM.out HV.out;go_wp2_with fail
   refine hR.mono ?_;rintro e w5 ⟨rfl,hv5,ho5,hsz5,hb5⟩;go_wp2_with fail
   go_roundw
   case rel =>
    refine ⟨k+1,by omega,by go_num,?_,(ho5 gm (by omega)).trans HM.out,(ho5 _ (by omega)).trans HH.out,(ho5 _ (by omega)).trans HZ.out,hbw.trans (hb5.mono (by omega))⟩;show Row w5 gv 162 (rk (mp B 16) (vr B V0 k) (sg k) 8);rw [rk_congr (mp B 16) (vr B V0 k) (sg k) (fg o) 8 (fun i hi=>by rw [← ho,fg_sg k i hlt (by omega)])];exact hv5
   case measure=>simp [RowKit.intOf];omega
  ·obtain rfl:k=10:=by omega
   have lV10:=vr_len B V0 lV 10;obtain ⟨V,hV⟩:∃ V,vr B V0 10=V:=⟨_,rfl⟩;rw [hV] at HV lV10 hbl;obtain ⟨w6,hw6⟩:∃ w6,wr=w6:=⟨_,rfl⟩;rw [hw6] at HV HH HZ hbw;rw [hw6];clear hw6 HM;go_wp2_with fail
   go_loopw [35] (fun i wq=>∃ k:Nat,k≤8∧i=.int .i64 k∧Hid (Row wq gv 162 V)∧Hid (Row wq w.heap.size 99 (hx H V k))∧Hid (Row wq (w.heap.size+1) 99 Z8)∧Below w.heap.size w wq) (fun i _=>8 - (RowKit.intOf i).toNat)
   case atStart=>exact ⟨0,by omega,rfl,HV,by rw [hx_zero H V hH];exact HH,HZ,hbw⟩
   case round =>
    obtain ⟨k,hk,rfl,JV,JH,JZ,hbq⟩:=hrel
    by_cases hlt:k < 8
    ·have i0:(k:Int) < 8:=by omega
     have x0:IntKind.i64.wrap ((k:Int)+8)=(k:Int)+8:=by rw [IntKind.wrap_i64];omega
     have x1:((k:Int)+8).toNat=k+8:=by omega
     have x2:(k:Int)+8 < 16:=by omega
     have x3:(0:Int)≤(k:Int)+8:=by omega
     have x4:(k:Int) < 16:=by omega
     have lh:=hx_len H V k;have c0:wr.cell? ⟨w.heap.size,k,none⟩=some (.int .u32 (at_ H k)):=by rw [JH.out.cell k (by omega),at_eq,hx_at H V k hlt]
     have c1:wr.cell? ⟨gv,k,none⟩=some (.int .u32 (at_ V k)):=by rw [JV.out.cell k (by omega),at_eq]
     have c2:wr.cell? ⟨gv,k+8,none⟩=some (.int .u32 (at_ V (k+8))):=by rw [JV.out.cell (k+8) (by omega),at_eq]
     have f0:=JH.out.frozen k;go_wp2_with fail
     refine region_tail 13 (by kernel_rfl) (by kernel_rfl) ?_;simp only [List.take_succ_cons,List.take_zero,List.drop_succ_cons,List.drop_zero]
     repeat still_step
     refine wpStill_nil ?_;go_wp2_with fail
     refine ⟨?_,?measure2⟩
     (repeat apply Exists.intro)
     refine ⟨?rel2,rfl⟩
     case rel2 =>
      refine ⟨k+1,by omega,by go_num,(JV.out.other _ _ _ (by omega)).drew,?_,(JZ.out.other _ _ _ (by omega)).drew,(hbq.setCell (by simp) _).drew⟩;rw [← hx_set H V k _ rfl];exact (JH.out.set k _).drew
     case measure2=>simp [RowKit.intOf];omega
    ·obtain rfl:k=8:=by omega
     have lh:=hx_len H V 8;obtain ⟨R,hRR⟩:∃ R,hx H V 8=R:=⟨_,rfl⟩;rw [hRR] at JH lh hbl;go_wp2_with (first | (refine wpList_load_row rfl 99 _ rfl w.heap.size rfl 99 (wv R) (0,0) _ ?hg7 Tryz.underlying99 rfl ?hi7 ?_) | (refine wpList_store_row rfl 99 _ _ rfl (w.heap.size+1) (wv R) rfl rfl 99 (wv Z8) ?hg8 ?hi8 ?ho8 ?h18 ?_))
     case hg7=>exact JH.out
     case hi7=>rw [size8,wv_size,lh]
     case hg8=>exact JZ.out
     case hi8=>rw [size8,wv_size,lh]
     case ho8=>rw [wv_size,wv_size,lh];rfl
     case h18=>exact wv_one _
     refine bodyPost_ret (v:=.tuple #[.agg (wv R),.int .i64 0]) (results_row_tmp Tryz.results134 _ _ (w.heap.size+1) 99 (wv R) (0,0) _ rfl ?_ Tryz.underlying99 rfl ?_) rfl ⟨by first | rfl | rw [hbl],?_⟩
     ·exact setRow_heap _ _ _ _ _ _ JZ.out
     ·rw [size8,wv_size,lh]
     ·exact below_setRow hbq (by omega) _
end Go.Proofs.YthamoeekiglphaaGreatDoor
namespace Go.Proofs.YthamoeekiglphaaGreatDoor
set_option maxRecDepth 100000
open Go.RowKit
set_option linter.unusedVariables false
attribute [local go_sem] ba_size ba_get ba_extract take_drop_end wv_get wv_getE wv_set wv_size
theorem wv8 (H:List Int) (h:H.length=8):wv H=#[.int .u32 (at_ H 0),.int .u32 (at_ H 1),.int .u32 (at_ H 2),.int .u32 (at_ H 3),.int .u32 (at_ H 4),.int .u32 (at_ H 5),.int .u32 (at_ H 6),.int .u32 (at_ H 7)]:=by
 match H,h with
 | [a,b,c,d,e,f,g,i],_=>rfl
set_option maxHeartbeats 1000000 in
theorem fold_any (H:List Int) (hH:H.length=8) (S:List UInt8) (hS:S.length≤9223372036854775000) (w:World) (hG:G w) :
 Calls Tryz.prog 112 #[.agg (wv H),.string ⟨S.toArray⟩] w fun e w'=>e=.returned (.string ⟨(fl (foldL H S) 32).toArray⟩)∧Below w.heap.size w w':=by
 have hHs:(wv H).size=8:=by rw [wv_size,hH]
 have hg3:=hG.size;go_enter Tryz.func112,Tryz.ntmps112
 go_wp2
 go_loopw [5] (fun i wr=>∃ k:Nat,Hid (k=0∨64*k < S.length)∧i=.int .i64 ((64*k:Nat):Int)∧Hid (Row wr w.heap.size 99 (fk H S k))∧Below w.heap.size w wr) (fun i _=>S.length - (RowKit.intOf i).toNat)
 case atStart=>exact ⟨0,Or.inl rfl,rfl,heap_alloc_new w _,(Below.refl _ _).alloc (Nat.le_refl _) _⟩
 case round =>
  obtain ⟨k,hk,rfl,HR,hbw⟩:=hrel;have hGr:G wr:=hG.below hbw hg3;have lk:=fk_len H S hH k;have hlk:(wv (fk H S k)).size=8:=by rw [wv_size,lk]
  have hrow:wr.heap[w.heap.size]?=some (.cells (wv (fk H S k)) 99 (0,0)):=HR.out;have hsz:(Tryz.prog.info? 99).map (·.size)=some (wv (fk H S k)).size:=by rw [size8,hlk]
  by_cases hlt:64*k+64 < S.length
  ·have i1:¬ (S.length:Int) - 64*(k:Int)≤64:=by omega
   have i2:(64:Int) < (S.length:Int) - 64*(k:Int):=by omega
   have lb:((S.drop (64*k)).take 64).length=64:=by simp;omega
   have e64:64*k+64 - 64*k=64:=by omega
   have hC:=block_good (fk H S k) lk ((S.drop (64*k)).take 64) lb (64*(k+1)) (by omega) false wr hGr;rw [show ((64*(k+1):Nat):Int)=64*(k:Int)+64 by omega] at hC;change Calls _ _ _ _ fun e w'=>e=.returned (.tuple #[.agg (wv (fk H S (k+1))),.int .i64 0])∧Below wr.heap.size wr w' at hC
   have lk1:=fk_len H S hH (k+1);obtain ⟨H1,hH1⟩:∃ H1,fk H S (k+1)=H1:=⟨_,rfl⟩;rw [hH1] at hC lk1;go_wp2_with (refine wpList_load_row rfl 99 _ rfl w.heap.size rfl 99 (wv (fk H S k)) (0,0) _ hrow Tryz.underlying99 rfl hsz ?_)
   refine hC.mono ?_;rintro e w1 ⟨rfl,hb1⟩;have hrow1:w1.heap[w.heap.size]?=some (.cells (wv (fk H S k)) 99 (0,0)):=(hb1.block _ HR.out.lt).trans hrow;have hsz1:(Tryz.prog.info? 99).map (·.size)=some (wv H1).size:=by rw [size8,wv_size,lk1]
   go_wp2_with (refine wpList_store_row rfl 99 _ _ rfl w.heap.size (wv H1) rfl rfl 99 (wv (fk H S k)) hrow1 hsz1 (by rw [wv_size,wv_size,lk,lk1]) (wv_one _) ?_)
   try go_simp
   go_roundw
   case rel =>
    refine ⟨k+1,(Or.inr (by omega):_∨_),by first | go_num | omega,?_,below_setRow (hbw.trans (hb1.mono (by have:=HR.out.lt;omega))) (Nat.le_refl _) _⟩;rw [hH1];exact setRow_heap _ _ _ _ _ _ hrow1
   case measure=>simp [RowKit.intOf];omega
  ·have i1:(S.length:Int) - 64*(k:Int)≤64:=by omega
   have i2:¬ (64:Int) < (S.length:Int) - 64*(k:Int):=by omega
   have j0:(0:Int)≤64*(k:Int):=by omega
   have j1:64*(k:Int)≤(S.length:Int):=by have:=hk.out;omega
   have j2:(64*(k:Int)).toNat=64*k:=by omega
   have j3:IntKind.u64.wrap (S.length:Int)=S.length:=by rw [IntKind.wrap_u64];omega
   have hnb:nb S=k:=nb_of S k hk.out (by omega);have ld:(S.drop (64*k)).length≤64:=by simp;omega
   have hfold:foldL H S=blockL (fk H S k) (padL (S.drop (64*k))) S.length true:=by unfold foldL;rw [hnb]
   have lp:=padL_len _ ld;have lr:=foldL_len H S;go_wp2_with fail
   refine wp_region_any (by kernel_rfl) ?_;change wpAny _ _ _ _ _ _ _ (World.drew _);refine wpAny_take (i:=1) (v:=.string ⟨S.toArray⟩) rfl (by kernel_rfl) (by kernel_rfl) (by kernel_rfl) (fun _ _ _ h=>h) (Or.inl ⟨by rfl,fun w=>by go_simp⟩) ?_;refine wpAny_take (i:=2) (v:=.int .i64 (64*(k:Int))) rfl (by kernel_rfl) (by kernel_rfl) (by kernel_rfl) (fun _ _ _ h=>h) (Or.inl ⟨by rfl,fun w=>by go_simp⟩) ?_;refine wpAny_take (i:=3) (v:=.string ⟨(S.drop (64*k)).toArray⟩) rfl (by kernel_rfl) (by kernel_rfl) (by kernel_rfl) (fun _ _ _ h=>h) (Or.inl ⟨by rfl,fun w=>by go_simp⟩) ?_;refine wpAny_take (i:=5) (v:=.string ⟨S.toArray⟩) rfl (by kernel_rfl) (by kernel_rfl) (by kernel_rfl) (fun _ _ _ h=>h) (Or.inl ⟨by rfl,fun w=>by go_simp⟩) ?_
   refine wpAny_take (i:=6) (v:=.int .i64 S.length) rfl (by kernel_rfl) (by kernel_rfl) (by kernel_rfl) (fun _ _ _ h=>h) (Or.inl ⟨by rfl,fun w=>by go_simp⟩) ?_;refine wpAny_take (i:=7) (v:=.int .u64 S.length) rfl (by kernel_rfl) (by kernel_rfl) (by kernel_rfl) (fun _ _ _ h=>h) (Or.inl ⟨by rfl,fun w=>by go_simp⟩) ?_;obtain ⟨R,hR⟩:∃ R,foldL H S=R:=⟨_,rfl⟩
   have hC:∀ w1,G w1→Calls Tryz.prog 134 #[.agg #[.int .u32 (at_ (fk H S k) 0),.int .u32 (at_ (fk H S k) 1),.int .u32 (at_ (fk H S k) 2),.int .u32 (at_ (fk H S k) 3),.int .u32 (at_ (fk H S k) 4),.int .u32 (at_ (fk H S k) 5),.int .u32 (at_ (fk H S k) 6),.int .u32 (at_ (fk H S k) 7)],.string ⟨(padL (S.drop (64*k))).toArray⟩,.int .u64 S.length,.bool true] w1 fun e w'=>e=.returned (.tuple #[.agg (wv R),.int .i64 0])∧Below w1.heap.size w1 w':=fun w1 h1=>by
    have h:=block_good (fk H S k) lk (padL (S.drop (64*k))) lp S.length (by omega) true w1 h1;rw [wv8 (fk H S k) lk,← hfold,hR] at h;exact h
   rw [hR] at lr;have hszR:(Tryz.prog.info? 99).map (·.size)=some (wv R).size:=by rw [size8,wv_size,lr]
   have c0:wr.cell? ⟨w.heap.size,0,none⟩=some (.int .u32 (at_ (fk H S k) 0)):=by rw [HR.out.cell 0 (by omega),at_eq]
   have c1:wr.cell? ⟨w.heap.size,1,none⟩=some (.int .u32 (at_ (fk H S k) 1)):=by rw [HR.out.cell 1 (by omega),at_eq]
   have c2:wr.cell? ⟨w.heap.size,2,none⟩=some (.int .u32 (at_ (fk H S k) 2)):=by rw [HR.out.cell 2 (by omega),at_eq]
   have c3:wr.cell? ⟨w.heap.size,3,none⟩=some (.int .u32 (at_ (fk H S k) 3)):=by rw [HR.out.cell 3 (by omega),at_eq]
   have c4:wr.cell? ⟨w.heap.size,4,none⟩=some (.int .u32 (at_ (fk H S k) 4)):=by rw [HR.out.cell 4 (by omega),at_eq]
   have c5:wr.cell? ⟨w.heap.size,5,none⟩=some (.int .u32 (at_ (fk H S k) 5)):=by rw [HR.out.cell 5 (by omega),at_eq]
   have c6:wr.cell? ⟨w.heap.size,6,none⟩=some (.int .u32 (at_ (fk H S k) 6)):=by rw [HR.out.cell 6 (by omega),at_eq]
   have c7:wr.cell? ⟨w.heap.size,7,none⟩=some (.int .u32 (at_ (fk H S k) 7)):=by rw [HR.out.cell 7 (by omega),at_eq]
   refine wpAny_ready (rs:=[0,4]) (by kernel_rfl) (by simp) ?_;refine AllReady.cons rfl (fun K hK=>?_) ?_
   ·go_simp
    refine hK _ _ ?_;clear hK K;refine wpAny_ready (rs:=[4]) (by kernel_rfl) (by simp) ?_;refine AllReady.cons rfl (fun K hK=>?_) AllReady.nil;go_simp
    refine (fill_any _ ld _).mono ?_;rintro e w1 ⟨rfl,hb1⟩;have HR1:Row w1 w.heap.size 99 (fk H S k):=(hb1.block _ HR.out.lt).trans hrow;have hbw1:Below w.heap.size w w1:=hbw.drew.trans (hb1.mono (by have:=HR.out.lt;show w.heap.size≤wr.heap.size;omega));have hG1:G w1:=hG.below hbw1 hg3;refine hK _ _ ?_;clear hK K;refine wpAny_ready (rs:=[8]) (by kernel_rfl) (by simp) ?_;refine AllReady.cons rfl (fun K hK=>?_) AllReady.nil;go_simp
    refine (hC w1 hG1).mono ?_;rintro e w2 ⟨rfl,hb2⟩;have hrow2:w2.heap[w.heap.size]?=some (.cells (wv (fk H S k)) 99 (0,0)):=(hb2.block _ HR1.lt).trans HR1;refine hK _ _ ?_;clear hK K;refine wpAny_ready (rs:=[9]) (by kernel_rfl) (by simp) ?_;refine AllReady.cons rfl (fun K hK=>?_) AllReady.nil;go_simp
    refine hK _ _ ?_;clear hK K;refine wpAny_take (i:=11) (v:=.int .i64 0) rfl (by kernel_rfl) (by kernel_rfl) (by kernel_rfl) (fun _ _ _ h=>h) (Or.inl ⟨by rfl,fun w=>by go_simp⟩) ?_;refine wpAny_ready (rs:=[10]) (by kernel_rfl) (by simp) ?_;refine AllReady.cons rfl (fun K hK=>?_) AllReady.nil;go_simp
    refine hK _ _ ?_;clear hK K;refine any_seqI [12] [_] _ _ _ rfl (by kernel_rfl) ?_;refine wpList_store_row rfl 99 _ _ rfl w.heap.size (wv R) rfl rfl 99 (wv (fk H S k)) hrow2 hszR (by rw [wv_size,wv_size,lk,lr]) (wv_one _) ?_;have hrow3:(w2.setRow w.heap.size (wv R)).heap[w.heap.size]?=some (.cells (wv R) 99 (0,0)):=setRow_heap _ _ _ _ _ _ hrow2;have hb3:Below w.heap.size w (w2.setRow w.heap.size (wv R)):=below_setRow (hbw1.trans (hb2.mono (by have:=HR1.lt;omega))) (Nat.le_refl _) _;obtain ⟨w3,hw3⟩:∃ w3,w2.setRow w.heap.size (wv R)=w3:=⟨_,rfl⟩;rw [hw3] at hrow3 hb3 ⊢;go_wp2_with (refine wpList_load_row rfl 99 _ rfl w.heap.size rfl 99 (wv R) (0,0) _ hrow3 Tryz.underlying99 rfl hszR ?_)
    refine (flat_any R lr _).mono ?_;rintro e w4 ⟨rfl,hb4⟩;go_wp2_with fail
    go_ret
    exact ⟨by rw [hR];rfl,hb3.trans (hb4.mono hb3.size)⟩
   ·refine AllReady.cons rfl (fun K hK=>?_) AllReady.nil
    go_simp
    refine (fill_any _ ld _).mono ?_;rintro e w1 ⟨rfl,hb1⟩;have HR1:Row w1 w.heap.size 99 (fk H S k):=(hb1.block _ HR.out.lt).trans hrow;have hbw1:Below w.heap.size w w1:=hbw.drew.trans (hb1.mono (by have:=HR.out.lt;show w.heap.size≤wr.heap.size;omega));have hG1:G w1:=hG.below hbw1 hg3;have d0:w1.cell? ⟨w.heap.size,0,none⟩=some (.int .u32 (at_ (fk H S k) 0)):=by rw [HR1.cell 0 (by omega),at_eq]
    have d1:w1.cell? ⟨w.heap.size,1,none⟩=some (.int .u32 (at_ (fk H S k) 1)):=by rw [HR1.cell 1 (by omega),at_eq]
    have d2:w1.cell? ⟨w.heap.size,2,none⟩=some (.int .u32 (at_ (fk H S k) 2)):=by rw [HR1.cell 2 (by omega),at_eq]
    have d3:w1.cell? ⟨w.heap.size,3,none⟩=some (.int .u32 (at_ (fk H S k) 3)):=by rw [HR1.cell 3 (by omega),at_eq]
    have d4:w1.cell? ⟨w.heap.size,4,none⟩=some (.int .u32 (at_ (fk H S k) 4)):=by rw [HR1.cell 4 (by omega),at_eq]
    have d5:w1.cell? ⟨w.heap.size,5,none⟩=some (.int .u32 (at_ (fk H S k) 5)):=by rw [HR1.cell 5 (by omega),at_eq]
    have d6:w1.cell? ⟨w.heap.size,6,none⟩=some (.int .u32 (at_ (fk H S k) 6)):=by rw [HR1.cell 6 (by omega),at_eq]
    have d7:w1.cell? ⟨w.heap.size,7,none⟩=some (.int .u32 (at_ (fk H S k) 7)):=by rw [HR1.cell 7 (by omega),at_eq]
    refine hK _ _ ?_;clear hK K;refine wpAny_ready (rs:=[0]) (by kernel_rfl) (by simp) ?_;refine AllReady.cons rfl (fun K hK=>?_) AllReady.nil;go_simp
    refine hK _ _ ?_;clear hK K;refine wpAny_ready (rs:=[8]) (by kernel_rfl) (by simp) ?_;refine AllReady.cons rfl (fun K hK=>?_) AllReady.nil;go_simp
    refine (hC w1 hG1).mono ?_;rintro e w2 ⟨rfl,hb2⟩;have hrow2:w2.heap[w.heap.size]?=some (.cells (wv (fk H S k)) 99 (0,0)):=(hb2.block _ HR1.lt).trans HR1;refine hK _ _ ?_;clear hK K;refine wpAny_ready (rs:=[9]) (by kernel_rfl) (by simp) ?_;refine AllReady.cons rfl (fun K hK=>?_) AllReady.nil;go_simp
    refine hK _ _ ?_;clear hK K;refine wpAny_take (i:=11) (v:=.int .i64 0) rfl (by kernel_rfl) (by kernel_rfl) (by kernel_rfl) (fun _ _ _ h=>h) (Or.inl ⟨by rfl,fun w=>by go_simp⟩) ?_;refine wpAny_ready (rs:=[10]) (by kernel_rfl) (by simp) ?_;refine AllReady.cons rfl (fun K hK=>?_) AllReady.nil;go_simp
    refine hK _ _ ?_;clear hK K;refine any_seqI [12] [_] _ _ _ rfl (by kernel_rfl) ?_;refine wpList_store_row rfl 99 _ _ rfl w.heap.size (wv R) rfl rfl 99 (wv (fk H S k)) hrow2 hszR (by rw [wv_size,wv_size,lk,lr]) (wv_one _) ?_;have hrow3:(w2.setRow w.heap.size (wv R)).heap[w.heap.size]?=some (.cells (wv R) 99 (0,0)):=setRow_heap _ _ _ _ _ _ hrow2;have hb3:Below w.heap.size w (w2.setRow w.heap.size (wv R)):=below_setRow (hbw1.trans (hb2.mono (by have:=HR1.lt;omega))) (Nat.le_refl _) _;obtain ⟨w3,hw3⟩:∃ w3,w2.setRow w.heap.size (wv R)=w3:=⟨_,rfl⟩;rw [hw3] at hrow3 hb3 ⊢;go_wp2_with (refine wpList_load_row rfl 99 _ rfl w.heap.size rfl 99 (wv R) (0,0) _ hrow3 Tryz.underlying99 rfl hszR ?_)
    refine (flat_any R lr _).mono ?_;rintro e w4 ⟨rfl,hb4⟩;go_wp2_with fail
    go_ret
    exact ⟨by rw [hR];rfl,hb3.trans (hb4.mono hb3.size)⟩
def sumL (S:List UInt8):List UInt8:=fl (foldL (startL 0) S) 32
end Go.Proofs.YthamoeekiglphaaGreatDoor
namespace Go.Proofs.YthamoeekiglphaaGreatDoor
set_option maxRecDepth 100000
set_option linter.unusedVariables false
theorem sumL_len32 (S:List UInt8):(sumL S).length=32:=fl_len _ _
open Go.RowKit
structure P15C:Prop where
 proved:∀ (c:Ct) (vo vr vp:Value) (root:List UInt8) (w:World),G w→CtAt w c vo vr vp→Calls Tryz.prog 11 #[.agg (ctC c vo vr vp),.string ⟨root.toArray⟩] w fun e w'=>e=.returned (.int .i64 (provL sumL c root))∧Below w.heap.size w w'
 check:∀ (c:Ct) (vo vr vp:Value) (root:List UInt8) (w:World),G w→CtAt w c vo vr vp→Calls Tryz.prog 13 #[.agg (ctC c vo vr vp),.string ⟨root.toArray⟩] w fun e w'=>e=.returned (.int .i64 (leanL sumL c root))∧Below w.heap.size w w'
 bad:∀ (l:List Pf) (v:Value) (b:Int × Int × Int) (w:World),IsPfs w v l→Calls Tryz.prog 15 #[v,.agg #[.int .i64 b.1,.int .i64 b.2.1,.int .i64 b.2.2]] w fun e w'=>e=.returned (.bool (badB l b))∧Below w.heap.size w w'
 edge:∀ (l:List Pf) (v:Value) (e:Ed) (w:World),IsPfs w v l→Calls Tryz.prog 17 #[v,.agg #[.int .i64 e.1,.int .i64 e.2.1,.int .i64 e.2.2.1,.int .i64 e.2.2.2.1,.int .i64 e.2.2.2.2]] w fun e' w'=>e'=.returned (.bool (edgeB l e))∧Below w.heap.size w w'
attribute [local go_sem] ba_size
def badAt (h:List Ev) (i:Nat):Option Bd:=if (atL h i).1=0 then none else some (atL h i)
theorem bads_next (h:List Ev) (k:Nat):(List.range (k+1)).filterMap (badAt h)=(List.range k).filterMap (badAt h)++(badAt h k).toList:=by
 rw [List.range_succ,List.filterMap_append];cases hl:badAt h k with
 | none=>simp [hl]
 | some x=>simp [hl]
theorem atI_nat (h:List Ev) (k:Nat):atI h (k:Int)=atL h k:=by unfold atI;rw [if_pos (by omega),Int.toNat_natCast]
set_option maxHeartbeats 2000000 in
theorem rbads_big (h:List Ev) (v:Value) (w:World) (hT:IsEvs w v h) (hle:h.length≤2932031007402) :
 Calls Tryz.prog 61 #[v] w fun e w'=>BdRow 24 w (badsL h) e w':=by
 obtain ⟨i0,hi,hz0,hz1,hz2⟩:=info_parts bad_info;have C1:=fun (i:Int) W hW=>rat_any h v W (hT.below (w':=W) hW) i
 obtain ⟨a,cap,rfl,h1,h2,h3,HC⟩:=hT.reads;obtain ⟨n,hn⟩:∃ n,h.length=n:=⟨_,rfl⟩;have HN:Hid (h.length=n):=hn;simp only [hn] at C1;rw [hn] at h1 h3 hle ⊢;clear hT hn;go_enter Tryz.func61,Tryz.ntmps61
 go_wp2_with fail
 go_loopw [3,4] (fun r i wr=>∃ (k c:Nat),k≤n∧c≤k∧i=.int .i64 k∧Hid (((List.range k).filterMap (badAt h)).length=c)∧Below w.heap.size w wr∧wr.ownsRow w.heap.size 24 3 r c (recV badV ((List.range k).filterMap (badAt h)))) (fun _ i _=>n - (RowKit.intOf i).toNat)
 case atStart=>exact ⟨0,0,Nat.zero_le _,Nat.zero_le _,rfl,rfl,Below.refl _ _,World.ownsRow_nil _ _ _ _⟩
 case round =>
  obtain ⟨k,c,hk,hc,rfl,HL,hbw,hrow⟩:=hrel
  by_cases hlt:k < n
  ·have D1:=C1 (k:Int)
   rw [atI_nat] at D1;obtain ⟨⟨y0,y1,y2⟩,hy⟩:∃ y,atL h k=y:=⟨_,rfl⟩;rw [hy] at D1
   by_cases d:y0=0
   ·have HA:Hid (badAt h k=none):=by show _=_;unfold badAt;rw [hy,if_pos d]
    have HV:Hid (recV badV ((List.range (k+1)).filterMap (badAt h))=recV badV ((List.range k).filterMap (badAt h))):=by show _=_;rw [bads_next,HA.out,Option.toList_none,List.append_nil]
    have HL':Hid (((List.range (k+1)).filterMap (badAt h)).length=c):=by show _=_;rw [bads_next,HA.out,Option.toList_none,List.append_nil,HL.out]
    have e1:(y0 != 0)=false:=by rw [d];rfl
    clear d hy;go_wp2_with fail
    refine (D1 _ hbw).mono ?_;rintro e w1 ⟨rfl,b1⟩;have B1:=bel_trans hbw b1;have O1:=(owns_below hrow b1).alloc (.cells #[.int .i64 y0,.int .i64 y1,.int .i64 y2] 24);have B1':=B1.alloc B1.size (.cells #[.int .i64 y0,.int .i64 y1,.int .i64 y2] 24);go_wp2_with fail
    refine ⟨?relA,?meaA⟩
    case relA=>exact ⟨k+1,c,by omega,by omega,by first | go_num | simp,HL',B1',by rw [HV.out];exact O1⟩
    case meaA=>simp [RowKit.intOf];omega
   ·have HA:Hid (badAt h k=some (y0,y1,y2)):=by show _=_;unfold badAt;rw [hy,if_neg d]
    have HV:Hid (recV badV ((List.range (k+1)).filterMap (badAt h))=recV badV ((List.range k).filterMap (badAt h))++[.int .i64 y0,.int .i64 y1,.int .i64 y2]):=by show _=_;rw [bads_next,HA.out,recV_append];rfl
    have HL':Hid (((List.range (k+1)).filterMap (badAt h)).length=c+1):=by show _=_;rw [bads_next,HA.out,List.length_append,HL.out];rfl
    have e1:(y0 != 0)=true:=bne_iff_ne.2 d;obtain ⟨DR,hDR⟩:∃ d,recV badV ((List.range k).filterMap (badAt h))=d:=⟨_,rfl⟩;rw [hDR] at hrow HV;clear hDR hy;go_wp2_with fail
    refine (D1 _ hbw).mono ?_;rintro e w1 ⟨rfl,b1⟩;have B1:=bel_trans hbw b1;have O1:=(owns_below hrow b1).alloc (.cells #[.int .i64 y0,.int .i64 y1,.int .i64 y2] 24);have B1':=B1.alloc B1.size (.cells #[.int .i64 y0,.int .i64 y1,.int .i64 y2] 24);have sz:=B1.size;go_wp2_with (at_builtin;refine wpList_append_own _ rfl _ _ 105 rfl w.heap.size 24 i0 (.agg #[.int .i64 0,.int .i64 0,.int .i64 0]) 3 24 Tryz.underlying105 hi hz0 hz1 hz2 rfl (by decide) _ _ _ rfl (O1.alloc _) ⟨w1.heap.size+1,0,none⟩ 1 1 [.int .i64 y0,.int .i64 y1,.int .i64 y2] rfl rfl ?d1 ?d2 ?d3 ?d4 ?d5 ?_)
    try
     case d1 =>
      intro j u hj
      match j,hj with
      | 0,hj=>simp at hj;subst hj;first | (simp [Addr.add];done) | exact cell_new7 (by simp) rfl
      | 1,hj=>simp at hj;subst hj;first | (simp [Addr.add];done) | exact cell_new7 (by simp) rfl
      | 2,hj=>simp at hj;subst hj;first | (simp [Addr.add];done) | exact cell_new7 (by simp) rfl
    try
     case d2=>first | exact badV_one (y0,y1,y2) | exact ⟨rfl,rfl,rfl⟩
    try
     case d3=>unfold maxLen;omega
    try
     case d4=>omega
    try
     case d5=>first | (simp;done) | (simp;omega)
    intro v' w3 own3 g3 _;have B3:Below w.heap.size w w3:=(B1'.alloc B1'.size _).grown g3 (by have:=B1'.size;simp at this ⊢;omega) (fun j hj=>(hrow.lt j hj).1);go_wp2_with fail
    refine ⟨?relB,?meaB⟩
    case relB=>exact ⟨k+1,c+1,by omega,by omega,by first | go_num | simp,HL',B3,by rw [HV.out];exact own3⟩
    case meaB=>simp [RowKit.intOf];omega
  ·obtain rfl:k=n:=by omega
   have HE:Hid (badsL h=(List.range k).filterMap (badAt h)):=by show badsL h=_;unfold badsL;rw [HN.out];rfl
   go_wp2_with fail
   go_ret
   refine ⟨_,rfl,hbw,?_⟩;rw [HE.out,HL.out];exact hrow
theorem rbads_any (h:List Ev) (v:Value) (w:World) (hT:IsEvs w v h) (hle:h.length≤300) :
 Calls Tryz.prog 61 #[v] w fun e w'=>BdRow 24 w (badsL h) e w':=rbads_big h v w hT (by omega)
set_option maxHeartbeats 2000000 in
theorem router_any (h:List Ev) (v:Value) (w:World) (hT:IsEvs w v h) (i:Int) :
 Calls Tryz.prog 95 #[v,.int .i64 i] w fun e w'=>e=.returned (.bool (outerI h i))∧Below w.heap.size w w':=by
 have CC:=fun W hW=>rcounts_any h v W (hT.below (w':=W) hW) i
 have C2:=fun (t:Int) (k:List UInt8) (b:Int) W hW=>rlast_any h v W (hT.below (w':=W) hW) t k b
 obtain ⟨a,cap,rfl,h1,h2,h3,HC⟩:=hT.reads;obtain ⟨n,hn⟩:∃ n,h.length=n:=⟨_,rfl⟩;have HN:Hid (h.length=n):=hn;simp only [hn] at CC C2;rw [hn] at h1 h3 ⊢;clear hT hn
 by_cases hc:countI h i=true
 ·rw [hc] at CC
  have hi0:0≤i∧countsB h i.toNat=true:=by
   unfold countI at hc;rw [Bool.and_eq_true,decide_eq_true_eq] at hc;exact hc
  obtain ⟨q,rfl⟩:∃ q:Nat,i=(q:Int):=⟨i.toNat,by omega⟩;have hcq:countsB h q=true:=by have:=hi0.2;rwa [Int.toNat_natCast] at this
  have hA:outerI h (q:Int)=decide (lastN h (ev h q).2.1 (ev h q).2.2.1 q=none):=by unfold outerI outerB;rw [Int.toNat_natCast,hcq,decide_eq_true (by omega)];simp
  rw [hA];have hcl:=(counts_iff h q).1 hcq;have HQ1:Hid (q < h.length):=hcl.1;have hqn:q < n:=by have:=HN.out;have:=HQ1.out;omega
  obtain ⟨bb,off,rfl,HQ⟩:=HC.out (by have:=HQ1.out;omega);obtain ⟨⟨x0,x1,x2,x3⟩,hx⟩:∃ x,ev h q=x:=⟨_,rfl⟩;have HX:Hid (ev h q=(x0,x1,x2,x3)):=hx;simp only [hx];have D1:=C2 x1 x2 (q:Int);rw [last_upto h x1 x2 q (by have:=HQ1.out;omega)] at D1;clear hx hcl hcq hi0 hc hA;rcases hl:lastN h x1 x2 q with _ | k
  ·rw [hl] at D1
   simp only [oI] at D1;rw [decide_eq_true (by rfl)];clear hl;go_enter Tryz.func95,Tryz.ntmps95
   go_wp2_with fail
   refine (CC _ (Below.refl _ _)).mono ?_;rintro e w1 ⟨rfl,b1⟩;obtain ⟨s0,s1,s2,s3⟩:=HQ.out q HQ1.out _ b1;rw [HX.out] at s0 s1 s2 s3;simp only at s0 s1 s2 s3;have S0:(fun V=>Below w1.heap.size w1 V∧V.cell? ⟨bb,off+q*4+1,none⟩=some (.int .i64 x1)∧V.cell? ⟨bb,off+q*4+2,none⟩=some (.string ⟨x2.toArray⟩)) (w1).drew:=⟨(Below.refl _ _).drew,s1,s2⟩;have keepS:∀ V V':World,(fun V=>Below w1.heap.size w1 V∧V.cell? ⟨bb,off+q*4+1,none⟩=some (.int .i64 x1)∧V.cell? ⟨bb,off+q*4+2,none⟩=some (.string ⟨x2.toArray⟩)) V→Below V.heap.size V V'→(fun V=>Below w1.heap.size w1 V∧V.cell? ⟨bb,off+q*4+1,none⟩=some (.int .i64 x1)∧V.cell? ⟨bb,off+q*4+2,none⟩=some (.string ⟨x2.toArray⟩)) V':=fun V V' ⟨a,b,c⟩ d=>⟨bel_trans a d,cell_bel d b,cell_bel d c⟩
   go_wp2_with fail
   go_region_held3 (fun V=>Below w1.heap.size w1 V∧V.cell? ⟨bb,off+q*4+1,none⟩=some (.int .i64 x1)∧V.cell? ⟨bb,off+q*4+2,none⟩=some (.string ⟨x2.toArray⟩)) (first | exact S0 | exact keepS _ _ (by assumption) (by assumption)) (first | (go_at_call 119;refine (D1 _ (bel_trans b1 (And.left (by assumption)))).mono ?_;rintro e' w' ⟨rfl,b8⟩))
   go_wp2_with fail
   go_ret
   exact ⟨rfl,bel_trans b1 (And.left (by assumption))⟩
  ·rw [hl] at D1
   simp only [oI] at D1;have jk:¬ (k:Int) < 0:=by omega
   rw [decide_eq_false (by simp)];clear hl;go_enter Tryz.func95,Tryz.ntmps95
   go_wp2_with fail
   refine (CC _ (Below.refl _ _)).mono ?_;rintro e w1 ⟨rfl,b1⟩;obtain ⟨s0,s1,s2,s3⟩:=HQ.out q HQ1.out _ b1;rw [HX.out] at s0 s1 s2 s3;simp only at s0 s1 s2 s3;have S0:(fun V=>Below w1.heap.size w1 V∧V.cell? ⟨bb,off+q*4+1,none⟩=some (.int .i64 x1)∧V.cell? ⟨bb,off+q*4+2,none⟩=some (.string ⟨x2.toArray⟩)) (w1).drew:=⟨(Below.refl _ _).drew,s1,s2⟩;have keepS:∀ V V':World,(fun V=>Below w1.heap.size w1 V∧V.cell? ⟨bb,off+q*4+1,none⟩=some (.int .i64 x1)∧V.cell? ⟨bb,off+q*4+2,none⟩=some (.string ⟨x2.toArray⟩)) V→Below V.heap.size V V'→(fun V=>Below w1.heap.size w1 V∧V.cell? ⟨bb,off+q*4+1,none⟩=some (.int .i64 x1)∧V.cell? ⟨bb,off+q*4+2,none⟩=some (.string ⟨x2.toArray⟩)) V':=fun V V' ⟨a,b,c⟩ d=>⟨bel_trans a d,cell_bel d b,cell_bel d c⟩
   go_wp2_with fail
   go_region_held3 (fun V=>Below w1.heap.size w1 V∧V.cell? ⟨bb,off+q*4+1,none⟩=some (.int .i64 x1)∧V.cell? ⟨bb,off+q*4+2,none⟩=some (.string ⟨x2.toArray⟩)) (first | exact S0 | exact keepS _ _ (by assumption) (by assumption)) (first | (go_at_call 119;refine (D1 _ (bel_trans b1 (And.left (by assumption)))).mono ?_;rintro e' w' ⟨rfl,b8⟩))
   go_wp2_with fail
   go_ret
   exact ⟨rfl,bel_trans b1 (And.left (by assumption))⟩
 ·have hcf:countI h i=false:=by simpa using hc
  rw [hcf] at CC
  have hA:outerI h i=false:=by
   unfold outerI outerB;unfold countI at hcf;rw [← Bool.and_assoc,hcf,Bool.false_and]
  rw [hA];clear hA hcf hc;go_enter Tryz.func95,Tryz.ntmps95
  go_wp2_with fail
  refine (CC _ (Below.refl _ _)).mono ?_;rintro e w1 ⟨rfl,b1⟩;go_wp2_with fail
  go_quiet (fail)
  go_wp2_with fail
  go_ret
  exact ⟨rfl,below_drewN b1 _⟩
attribute [local go_sem] ba_size ba_get ba_extract ba_append take_drop_end wv_get wv_getE wv_set wv_size
def keyL (K S:List UInt8):List UInt8:=fl (foldL (startL K.length) (padL K++S)) 32
end Go.Proofs.YthamoeekiglphaaGreatDoor
namespace Go.Proofs.YthamoeekiglphaaGreatDoor
set_option maxRecDepth 100000
set_option linter.unusedVariables false
def keyP (k s:List UInt8):List UInt8 × Nat:=if mayK k then (keyL k s,0) else ([],1)
theorem keyL_32 (k s:List UInt8):(keyL k s).length=32:=by unfold keyL;exact fl_len _ _
def keyTagP (s k:List UInt8):List UInt8 × Nat:=keyP s (5::k)
def valTagP (s v:List UInt8):List UInt8 × Nat:=if mayK s then (tagV (keyL s) v,0) else ([],1)
def oneP (s:List UInt8) (x:Ev):Ev × Nat:=if mayE x∧mayK s then (tagE (keyL s) x,0) else ((0,0,[],[]),1)
def allP (s:List UInt8) (h:List Ev):List Ev × Nat:=if 256 < h.length then ([],4) else if allMay h∧(mayK s∨h=[]) then (tagsL (keyL s) h,0) else ([],1)
theorem oneP_ok (s:List UInt8) (x:Ev) (h1:mayE x) (h2:mayK s):oneP s x=(tagE (keyL s) x,0):=by unfold oneP;rw [if_pos ⟨h1,h2⟩]
theorem oneP_no (s:List UInt8) (x:Ev) (h:¬ (mayE x∧mayK s)):oneP s x=((0,0,[],[]),1):=by unfold oneP;rw [if_neg h]
theorem allP_big (s:List UInt8) (h:List Ev) (hl:256 < h.length):allP s h=([],4):=by unfold allP;rw [if_pos hl]
theorem allP_bad (s:List UInt8) (h:List Ev) (hl:¬ 256 < h.length) (k:Nat) (hk:k < h.length) (hm:¬ (mayE h[k]∧mayK s)):allP s h=([],1):=by
 unfold allP;rw [if_neg hl,if_neg];rintro ⟨ha,hs⟩;rcases hs with hs | hs
 ·exact hm ⟨ha _ (List.getElem_mem hk),hs⟩
 ·subst hs;simp at hk
theorem allP_ok (s:List UInt8) (h:List Ev) (hl:¬ 256 < h.length) (ha:allMay h) (hs:mayK s∨h=[]):allP s h=(tagsL (keyL s) h,0):=by
 unfold allP;rw [if_neg hl,if_pos ⟨ha,hs⟩]
theorem tagsL_next (kd:List UInt8→List UInt8) (h:List Ev) (k:Nat) (hk:k < h.length):tagsL kd (h.take (k+1))=tagsL kd (h.take k)++[tagE kd h[k]]:=by
 unfold tagsL;rw [List.take_succ_eq_append_getElem hk,List.map_append];rfl
open Go.RowKit
attribute [local go_sem] ba_size ba_get wv_get wv_getE wv_set wv_size
theorem rblock_good (H:List Int) (hH:H.length=8) (B:List UInt8) (hB:B.length=64) (t:Nat) (ht:t < 18446744073709551616) (last:Bool) (w:World) :
 Calls Tryz.prog 90 #[.agg (wv H),.string ⟨B.toArray⟩,.int .u64 t,.bool last] w fun e w'=>e=.returned (.tuple #[.agg (wv (blockL H B t last)),.int .i64 0])∧Below w.heap.size w w':=by
 cases last with
 | true=>exact rblock_true H hH B hB t ht w
 | false=>exact rblock_false H hH B hB t ht w
end Go.Proofs.YthamoeekiglphaaGreatDoor
namespace Go.Proofs.YthamoeekiglphaaGreatDoor
set_option maxRecDepth 100000
open Go.RowKit
set_option linter.unusedVariables false
attribute [local go_sem] ba_size ba_get ba_extract take_drop_end wv_get wv_getE wv_set wv_size
theorem rwv8 (H:List Int) (h:H.length=8):wv H=#[.int .u32 (at_ H 0),.int .u32 (at_ H 1),.int .u32 (at_ H 2),.int .u32 (at_ H 3),.int .u32 (at_ H 4),.int .u32 (at_ H 5),.int .u32 (at_ H 6),.int .u32 (at_ H 7)]:=by
 match H,h with
 | [a,b,c,d,e,f,g,i],_=>rfl
theorem fl_at (H:List Int) (i q:Nat) (hq:q < 4) (h:4*i+q < (fl H 32).length):(fl H 32)[4*i+q]'h=UInt8.ofNat (at_ H i / 256 ^ q % 256).toNat:=by
 have h32:4*i+q < 32:=by rw [fl_len] at h;exact h
 simp only [fl,List.getElem_map,List.getElem_range,if_pos h32];rw [show (4*i+q) / 4=i by omega,show (4*i+q) % 4=q by omega,Int.pow_mul];rfl
set_option maxRecDepth 100000 in
set_option maxHeartbeats 8000000 in
theorem rall_any (H:List Int) (hH:H.length=8) (S:List UInt8) (hS:S.length≤9223372036854775000) (w:World) :
 Calls Tryz.prog 58 #[.agg (wv H),.string ⟨S.toArray⟩] w fun e w'=>e=.returned (.string ⟨(fl (foldL H S) 32).toArray⟩)∧Below w.heap.size w w':=by
 have hHs:(wv H).size=8:=by rw [wv_size,hH]
 have s8:=rsize8_true;obtain ⟨i0,hi,hz0,hz1,hz2⟩:=info_parts byte_info;go_enter Tryz.func58,Tryz.ntmps58
 go_wp2
 go_loopw [5] (fun i wr=>∃ k:Nat,Hid (k=0∨64*k < S.length)∧i=.int .i64 (64*(k:Int))∧Hid (Row wr w.heap.size 99 (fk H S k))∧Below w.heap.size w wr) (fun i _=>S.length - (RowKit.intOf i).toNat)
 case atStart=>exact ⟨0,(Or.inl rfl:_∨_),rfl,heap_alloc_new w _,(Below.refl _ _).alloc (Nat.le_refl _) _⟩
 case round =>
  obtain ⟨k,hk,rfl,HR,hbw⟩:=hrel;have lk:=fk_len H S hH k;have hrow:wr.heap[w.heap.size]?=some (.cells (wv (fk H S k)) 99 (0,0)):=HR.out;have hgl:w.heap.size < wr.heap.size:=HR.out.lt;have hkS:64*k≤S.length:=by have:=hk.out;omega
  have y0:IntKind.i64.wrap (64*(k:Int)+64)=64*(k:Int)+64:=by rw [IntKind.wrap_i64];omega
  by_cases hlt:64*k+64 < S.length
  ·have i1:64*(k:Int)+64 < (S.length:Int):=by omega
   have i2:64*(k:Int)+64≤(S.length:Int):=by omega
   have i3:(0:Int)≤64*(k:Int):=by omega
   have i5:(64*(k:Int)).toNat=64*k:=by omega
   have i6:(64*(k:Int)+64).toNat=64*k+64:=by omega
   have i7:64*(k:Int)≤64*(k:Int)+64:=by omega
   have e64:64*k+64 - 64*k=64:=by omega
   have y1:IntKind.u64.wrap (64*(k:Int)+64)=64*(k:Int)+64:=by rw [IntKind.wrap_u64];omega
   have lb:((S.drop (64*k)).take 64).length=64:=by simp;omega
   have lk1:=fk_len H S hH (k+1);obtain ⟨H1,hH1⟩:∃ H1,fk H S (k+1)=H1:=⟨_,rfl⟩
   have hC:∀ w1,Calls Tryz.prog 90 #[.agg #[.int .u32 (at_ (fk H S k) 0),.int .u32 (at_ (fk H S k) 1),.int .u32 (at_ (fk H S k) 2),.int .u32 (at_ (fk H S k) 3),.int .u32 (at_ (fk H S k) 4),.int .u32 (at_ (fk H S k) 5),.int .u32 (at_ (fk H S k) 6),.int .u32 (at_ (fk H S k) 7)],.string ⟨((S.drop (64*k)).take 64).toArray⟩,.int .u64 (64*(k:Int)+64),.bool false] w1 fun e w'=>e=.returned (.tuple #[.agg (wv H1),.int .i64 0])∧Below w1.heap.size w1 w':=fun w1=>by
    have h:=rblock_good (fk H S k) lk ((S.drop (64*k)).take 64) lb (64*(k+1)) (by omega) false w1;rw [show ((64*(k+1):Nat):Int)=64*(k:Int)+64 by omega,rwv8 (fk H S k) lk,show blockL (fk H S k) ((S.drop (64*k)).take 64) (64*(k+1)) false=H1 by rw [← hH1];rfl] at h;exact h
   rw [hH1] at lk1;have hsz1:(Tryz.prog.info? 99).map (·.size)=some (wv H1).size:=by rw [s8,wv_size,lk1]
   have c0:(wr).cell? ⟨w.heap.size,0,none⟩=some (.int .u32 (at_ (fk H S k) 0)):=by rw [(HR.out).cell 0 (by omega),at_eq]
   have c1:(wr).cell? ⟨w.heap.size,1,none⟩=some (.int .u32 (at_ (fk H S k) 1)):=by rw [(HR.out).cell 1 (by omega),at_eq]
   have c2:(wr).cell? ⟨w.heap.size,2,none⟩=some (.int .u32 (at_ (fk H S k) 2)):=by rw [(HR.out).cell 2 (by omega),at_eq]
   have c3:(wr).cell? ⟨w.heap.size,3,none⟩=some (.int .u32 (at_ (fk H S k) 3)):=by rw [(HR.out).cell 3 (by omega),at_eq]
   have c4:(wr).cell? ⟨w.heap.size,4,none⟩=some (.int .u32 (at_ (fk H S k) 4)):=by rw [(HR.out).cell 4 (by omega),at_eq]
   have c5:(wr).cell? ⟨w.heap.size,5,none⟩=some (.int .u32 (at_ (fk H S k) 5)):=by rw [(HR.out).cell 5 (by omega),at_eq]
   have c6:(wr).cell? ⟨w.heap.size,6,none⟩=some (.int .u32 (at_ (fk H S k) 6)):=by rw [(HR.out).cell 6 (by omega),at_eq]
   have c7:(wr).cell? ⟨w.heap.size,7,none⟩=some (.int .u32 (at_ (fk H S k) 7)):=by rw [(HR.out).cell 7 (by omega),at_eq]
   go_wp2_with fail
   refine wp_region_any (by kernel_rfl) ?_;change wpAny _ _ _ _ _ _ _ (World.drew _);refine wpAny_take (i:=1) (v:=.string ⟨S.toArray⟩) rfl (by kernel_rfl) (by kernel_rfl) (by kernel_rfl) (fun _ _ _ h=>h) (Or.inl ⟨by rfl,fun w=>by go_simp⟩) ?_;refine wpAny_take (i:=2) (v:=.int .i64 (64*(k:Int))) rfl (by kernel_rfl) (by kernel_rfl) (by kernel_rfl) (fun _ _ _ h=>h) (Or.inl ⟨by rfl,fun w=>by go_simp⟩) ?_;refine wpAny_take (i:=3) (v:=.int .i64 (64*(k:Int))) rfl (by kernel_rfl) (by kernel_rfl) (by kernel_rfl) (fun _ _ _ h=>h) (Or.inl ⟨by rfl,fun w=>by go_simp⟩) ?_;refine wpAny_take (i:=4) (v:=.int .i64 (64*(k:Int)+64)) rfl (by kernel_rfl) (by kernel_rfl) (by kernel_rfl) (fun _ _ _ h=>h) (Or.inl ⟨by rfl,fun w=>by go_simp⟩) ?_
   refine wpAny_take (i:=5) (v:=.string ⟨((S.drop (64*k)).take 64).toArray⟩) rfl (by kernel_rfl) (by kernel_rfl) (by kernel_rfl) (fun _ _ _ h=>h) (Or.inl ⟨by rfl,fun w=>by go_simp⟩) ?_;refine wpAny_take (i:=6) (v:=.int .i64 (64*(k:Int))) rfl (by kernel_rfl) (by kernel_rfl) (by kernel_rfl) (fun _ _ _ h=>h) (Or.inl ⟨by rfl,fun w=>by go_simp⟩) ?_;refine wpAny_take (i:=7) (v:=.int .i64 (64*(k:Int)+64)) rfl (by kernel_rfl) (by kernel_rfl) (by kernel_rfl) (fun _ _ _ h=>h) (Or.inl ⟨by rfl,fun w=>by go_simp⟩) ?_;refine wpAny_take (i:=8) (v:=.int .u64 (64*(k:Int)+64)) rfl (by kernel_rfl) (by kernel_rfl) (by kernel_rfl) (fun _ _ _ h=>h) (Or.inl ⟨by rfl,fun w=>by go_simp⟩) ?_;refine wpAny_ready (rs:=[0]) (by kernel_rfl) (by simp) ?_
   refine AllReady.cons rfl (fun K' hK=>?_) AllReady.nil;go_simp
   refine hK _ _ ?_;clear hK K';refine wpAny_ready (rs:=[9]) (by kernel_rfl) (by simp) ?_;refine AllReady.cons rfl (fun K' hK=>?_) AllReady.nil;go_simp
   refine (hC wr.drew).mono ?_;rintro e w1 ⟨rfl,hb1⟩;have hs1:wr.heap.size≤w1.heap.size:=hb1.size;have hr1:w1.heap[w.heap.size]?=some (.cells (wv (fk H S k)) 99 (0,0)):=(hb1.block _ hgl).trans hrow;have hbw1:Below w.heap.size w w1:=hbw.drew.trans (hb1.mono (by show w.heap.size≤wr.heap.size;omega));refine hK _ _ ?_;clear hK K';refine wpAny_take (i:=10) (v:=.tuple #[.agg (wv H1),.int .i64 0]) rfl (by kernel_rfl) (by kernel_rfl) (by kernel_rfl) (fun _ _ _ h=>h) (Or.inl ⟨by rfl,fun w=>by go_simp⟩) ?_;refine wpAny_take (i:=11) (v:=.agg (wv H1)) rfl (by kernel_rfl) (by kernel_rfl) (by kernel_rfl) (fun _ _ _ h=>h) (Or.inl ⟨by rfl,fun w=>by go_simp⟩) ?_;refine wpAny_take (i:=12) (v:=.int .i64 0) rfl (by kernel_rfl) (by kernel_rfl) (by kernel_rfl) (fun _ _ _ h=>h) (Or.inl ⟨by rfl,fun w=>by go_simp⟩) ?_
   refine any_seqI [13] [_] _ _ _ rfl (by kernel_rfl) ?_;refine wpList_store_row rfl 99 _ _ rfl w.heap.size (wv H1) rfl rfl 99 (wv (fk H S k)) hr1 hsz1 (by rw [wv_size,wv_size,lk,lk1]) (wv_one _) ?_;have rh3:(w1.setRow w.heap.size (wv H1)).heap[w.heap.size]?=some (.cells (wv H1) 99 (0,0)):=setRow_heap _ _ _ _ _ _ hr1;have hb3:Below w.heap.size w (w1.setRow w.heap.size (wv H1)):=below_setRow hbw1 (by omega) _;obtain ⟨w3,hw3⟩:∃ w3,w1.setRow w.heap.size (wv H1)=w3:=⟨_,rfl⟩;change wpList _ _ _ _ _ (w1.setRow w.heap.size (wv H1));rw [hw3] at rh3 hb3 ⊢;clear hw3;go_wp2_with fail
   refine ⟨?relA,?measureA⟩
   case relA=>exact ⟨k+1,(Or.inr (by omega):_∨_),by first | go_num | omega,by rw [hH1];exact rh3,hb3⟩
   case measureA=>simp [RowKit.intOf];omega
  ·have i1:¬ 64*(k:Int)+64 < (S.length:Int):=by omega
   have i2:64*(k:Int)≤(S.length:Int):=by omega
   have i3:(0:Int)≤64*(k:Int):=by omega
   have i5:(64*(k:Int)).toNat=64*k:=by omega
   have y1:IntKind.u64.wrap (S.length:Int)=S.length:=by rw [IntKind.wrap_u64];omega
   have hnb:nb S=k:=nb_of S k hk.out (by omega);have ld:(S.drop (64*k)).length≤64:=by simp;omega
   have hfold:foldL H S=blockL (fk H S k) (padL (S.drop (64*k))) S.length true:=by unfold foldL;rw [hnb]
   have lp:=padL_len _ ld;have lr:=foldL_len H S;have rng:=foldL_rng H S;obtain ⟨R,hR⟩:∃ R,foldL H S=R:=⟨_,rfl⟩
   have hC:∀ w1,Calls Tryz.prog 90 #[.agg #[.int .u32 (at_ (fk H S k) 0),.int .u32 (at_ (fk H S k) 1),.int .u32 (at_ (fk H S k) 2),.int .u32 (at_ (fk H S k) 3),.int .u32 (at_ (fk H S k) 4),.int .u32 (at_ (fk H S k) 5),.int .u32 (at_ (fk H S k) 6),.int .u32 (at_ (fk H S k) 7)],.string ⟨(padL (S.drop (64*k))).toArray⟩,.int .u64 S.length,.bool true] w1 fun e w'=>e=.returned (.tuple #[.agg (wv R),.int .i64 0])∧Below w1.heap.size w1 w':=fun w1=>by
    have h:=rblock_good (fk H S k) lk (padL (S.drop (64*k))) lp S.length (by omega) true w1;rw [rwv8 (fk H S k) lk,← hfold,hR] at h;exact h
   obtain ⟨D,hDD⟩:∃ D,fl R 32=D:=⟨_,rfl⟩;have hDg:∀ i q,q < 4→∀ h:4*i+q < D.length,D[4*i+q]'h=UInt8.ofNat (at_ R i / 256 ^ q % 256).toNat:=by intro i q hq h;subst hDD;exact fl_at R i q hq h
   have lD:D.length=32:=by rw [← hDD];exact fl_len R 32
   have HD:Hid (fl (foldL H S) 32=D):=by rw [hR];exact hDD
   rw [hR] at lr rng;have hszR:(Tryz.prog.info? 99).map (·.size)=some (wv R).size:=by rw [s8,wv_size,lr]
   clear hfold hR hnb hDD;have c0:(wr).cell? ⟨w.heap.size,0,none⟩=some (.int .u32 (at_ (fk H S k) 0)):=by rw [(HR.out).cell 0 (by omega),at_eq]
   have c1:(wr).cell? ⟨w.heap.size,1,none⟩=some (.int .u32 (at_ (fk H S k) 1)):=by rw [(HR.out).cell 1 (by omega),at_eq]
   have c2:(wr).cell? ⟨w.heap.size,2,none⟩=some (.int .u32 (at_ (fk H S k) 2)):=by rw [(HR.out).cell 2 (by omega),at_eq]
   have c3:(wr).cell? ⟨w.heap.size,3,none⟩=some (.int .u32 (at_ (fk H S k) 3)):=by rw [(HR.out).cell 3 (by omega),at_eq]
   have c4:(wr).cell? ⟨w.heap.size,4,none⟩=some (.int .u32 (at_ (fk H S k) 4)):=by rw [(HR.out).cell 4 (by omega),at_eq]
   have c5:(wr).cell? ⟨w.heap.size,5,none⟩=some (.int .u32 (at_ (fk H S k) 5)):=by rw [(HR.out).cell 5 (by omega),at_eq]
   have c6:(wr).cell? ⟨w.heap.size,6,none⟩=some (.int .u32 (at_ (fk H S k) 6)):=by rw [(HR.out).cell 6 (by omega),at_eq]
   have c7:(wr).cell? ⟨w.heap.size,7,none⟩=some (.int .u32 (at_ (fk H S k) 7)):=by rw [(HR.out).cell 7 (by omega),at_eq]
   go_wp2_with fail
   refine wp_region_any (by kernel_rfl) ?_;change wpAny _ _ _ _ _ _ _ (World.drew _);refine wpAny_take (i:=1) (v:=.string ⟨S.toArray⟩) rfl (by kernel_rfl) (by kernel_rfl) (by kernel_rfl) (fun _ _ _ h=>h) (Or.inl ⟨by rfl,fun w=>by go_simp⟩) ?_;refine wpAny_take (i:=2) (v:=.int .i64 (64*(k:Int))) rfl (by kernel_rfl) (by kernel_rfl) (by kernel_rfl) (fun _ _ _ h=>h) (Or.inl ⟨by rfl,fun w=>by go_simp⟩) ?_;refine wpAny_take (i:=3) (v:=.string ⟨(S.drop (64*k)).toArray⟩) rfl (by kernel_rfl) (by kernel_rfl) (by kernel_rfl) (fun _ _ _ h=>h) (Or.inl ⟨by rfl,fun w=>by go_simp⟩) ?_;refine wpAny_take (i:=5) (v:=.string ⟨S.toArray⟩) rfl (by kernel_rfl) (by kernel_rfl) (by kernel_rfl) (fun _ _ _ h=>h) (Or.inl ⟨by rfl,fun w=>by go_simp⟩) ?_
   refine wpAny_take (i:=6) (v:=.int .i64 S.length) rfl (by kernel_rfl) (by kernel_rfl) (by kernel_rfl) (fun _ _ _ h=>h) (Or.inl ⟨by rfl,fun w=>by go_simp⟩) ?_;refine wpAny_take (i:=7) (v:=.int .u64 S.length) rfl (by kernel_rfl) (by kernel_rfl) (by kernel_rfl) (fun _ _ _ h=>h) (Or.inl ⟨by rfl,fun w=>by go_simp⟩) ?_;refine wpAny_ready (rs:=[0,4]) (by kernel_rfl) (by simp) ?_;refine AllReady.cons rfl (fun K' hK=>?_) ?_
   ·go_simp
    refine hK _ _ ?_;clear hK K';refine wpAny_ready (rs:=[4]) (by kernel_rfl) (by simp) ?_;refine AllReady.cons rfl (fun K' hK=>?_) AllReady.nil;go_simp
    refine (rpad_any _ ld _).mono ?_;rintro e w2 ⟨rfl,hb2⟩;have hR2:Row w2 w.heap.size 99 (fk H S k):=(hb2.block _ hgl).trans hrow;have hbw2:Below w.heap.size w w2:=hbw.drew.trans (hb2.mono (by show w.heap.size≤wr.heap.size;omega));refine hK _ _ ?_;clear hK K';refine wpAny_ready (rs:=[8]) (by kernel_rfl) (by simp) ?_;refine AllReady.cons rfl (fun K' hK=>?_) AllReady.nil;go_simp
    refine (hC w2).mono ?_;rintro e w4 ⟨rfl,hb4⟩;have hr4:w4.heap[w.heap.size]?=some (.cells (wv (fk H S k)) 99 (0,0)):=(hb4.block _ hR2.lt).trans hR2;have hbw4:Below w.heap.size w w4:=hbw2.trans (hb4.mono hbw2.size);refine hK _ _ ?_;clear hK K';refine wpAny_take (i:=9) (v:=.tuple #[.agg (wv R),.int .i64 0]) rfl (by kernel_rfl) (by kernel_rfl) (by kernel_rfl) (fun _ _ _ h=>h) (Or.inl ⟨by rfl,fun w=>by go_simp⟩) ?_;refine wpAny_take (i:=10) (v:=.agg (wv R)) rfl (by kernel_rfl) (by kernel_rfl) (by kernel_rfl) (fun _ _ _ h=>h) (Or.inl ⟨by rfl,fun w=>by go_simp⟩) ?_;refine wpAny_take (i:=11) (v:=.int .i64 0) rfl (by kernel_rfl) (by kernel_rfl) (by kernel_rfl) (fun _ _ _ h=>h) (Or.inl ⟨by rfl,fun w=>by go_simp⟩) ?_
    refine any_seqI [12] [_] _ _ _ rfl (by kernel_rfl) ?_;refine wpList_store_row rfl 99 _ _ rfl w.heap.size (wv R) rfl rfl 99 (wv (fk H S k)) hr4 hszR (by rw [wv_size,wv_size,lk,lr]) (wv_one _) ?_;have rh5:(w4.setRow w.heap.size (wv R)).heap[w.heap.size]?=some (.cells (wv R) 99 (0,0)):=setRow_heap _ _ _ _ _ _ hr4;have hb5:Below w.heap.size w (w4.setRow w.heap.size (wv R)):=below_setRow hbw4 (by omega) _;obtain ⟨w5,hw5⟩:∃ w5,w4.setRow w.heap.size (wv R)=w5:=⟨_,rfl⟩;change wpList _ _ _ _ _ (w4.setRow w.heap.size (wv R));rw [hw5] at rh5 hb5 ⊢;clear hw5;go_wp2_with fail
    have hlt5:w.heap.size < w5.heap.size:=Row.lt rh5;go_loopw [6,7] (fun v i wq=>∃ j:Nat,j≤8∧i=.int .i64 j∧Hid (wq.ownsRow w5.heap.size 5 1 v (4*j) (Lib.byteCells (D.take (4*j))))∧Hid (Row wq w.heap.size 99 R)∧Below w.heap.size w wq∧w5.heap.size≤wq.heap.size) (fun _ i _=>8 - (RowKit.intOf i).toNat)
    case atStart=>exact ⟨0,by omega,rfl,World.ownsRow_nil _ _ _ _,rh5,hb5,Nat.le_refl _⟩
    case round =>
     obtain ⟨j,hj,rfl,HO,HR7,hbw7,hs7⟩:=hrel
     by_cases hl3:j < 8
     ·have i4:(j:Int) < 8:=by omega
      have rj:=rng j hl3;have c0:wr.cell? ⟨w.heap.size,j,none⟩=some (.int .u32 (at_ R j)):=by rw [HR7.out.cell j (by omega),at_eq]
      obtain ⟨X,hX⟩:∃ X,at_ R j=X:=⟨_,rfl⟩
      have hDX:∀ q,q < 4→∀ h:4*j+q < D.length,D[4*j+q]'h=UInt8.ofNat (X / 256 ^ q % 256).toNat:=by
       intro q hq h;rw [← hX];exact hDg j q hq h
      rw [hX] at c0 rj;clear hX;go_wp2_with fail
      go_loopw [6,8,9] (fun v y i wq=>∃ q:Nat,q≤4∧i=.int .i64 q∧y=.int .u32 (X / 256 ^ q)∧Hid (wq.ownsRow w5.heap.size 5 1 v (4*j+q) (Lib.byteCells (D.take (4*j+q))))∧Hid (Row wq w.heap.size 99 R)∧Below w.heap.size w wq∧w5.heap.size≤wq.heap.size) (fun _ _ i _=>4 - (RowKit.intOf i).toNat)
      case atStart=>exact ⟨0,by omega,rfl,by simp,HO,HR7,hbw7,hs7⟩
      case round =>
       obtain ⟨q,hq,rfl,rfl,HO,HR8,hbw8,hs8⟩:=hrel
       by_cases hl4:q < 4
       ·have i5:(q:Int) < 4:=by omega
        have hd:=hDX q hl4 (by omega);have hnext:X / 256 ^ (q+1)=X / 256 ^ q / 256:=by rw [Int.pow_succ,Int.ediv_ediv_of_nonneg (Int.pow_nonneg (by omega))]
        have hnn:0≤X / 256 ^ q:=Int.ediv_nonneg rj.1 (Int.pow_nonneg (by omega))
        have hle:X / 256 ^ q < 4294967296:=by
         have h1:X / 256 ^ q≤X:=Int.ediv_le_self _ rj.1;omega
        obtain ⟨Y,hY⟩:∃ Y,X / 256 ^ q=Y:=⟨_,rfl⟩;have HN:Hid (X / 256 ^ (q+1)=Y / 256):=by rw [← hY];exact hnext
        rw [hY] at hd hnn hle;simp only [hY];clear hnext hY;have x1:IntKind.u8.wrap (Y % 256)=Y % 256:=by rw [IntKind.wrap_u8];omega
        go_wp2_with (at_builtin;refine wpList_append_own _ rfl _ _ 94 rfl w5.heap.size 5 i0 (.int .u8 0) 1 1 Tryz.underlying94 hi hz0 hz1 hz2 rfl (by decide) _ _ _ rfl (HO.out.alloc _) ⟨wr.heap.size,0,none⟩ 1 1 [.int .u8 (Y % 256)] rfl rfl ?d1x ?d2x ?d3x ?d4x ?d5x ?_)
        case d1x =>
         intro j u hj
         match j,hj with
         | 0,hj=>simp at hj;subst hj;simp [Addr.add]
        case d2x=>intro u hu;simp at hu;subst hu;rfl
        case d3x=>unfold maxLen;omega
        case d4x=>omega
        case d5x=>simp;omega
        intro v' w6 hown6 hgrow6 _
        have hblk:∀ k,(u6:Value).ownBlock=some k→w5.heap.size≤k:=fun k hk=>by
         rcases HO.out.2 with ⟨hv,_⟩ | ⟨g,cap,cur,hv,hbg,_⟩
         ·rw [hv] at hk;simp [Value.ownBlock] at hk
         ·rw [hv] at hk;simp [Value.ownBlock] at hk;omega
        have hR9:Row w6 w.heap.size 99 R:=(hgrow6.block _ (by simp;have:=HR8.out.lt;omega) (fun e=>by have:=hblk _ e.symm;omega)).trans (HR8.out.alloc _);have hbw9:Below w.heap.size w w6:=(hbw8.alloc (by omega) _).grown hgrow6 (by simp;omega) (fun k hk=>by have:=hblk k hk;omega);have hs9:w5.heap.size≤w6.heap.size:=by have:=hgrow6.size;simp at this;omega
        have HO9:w6.ownsRow w5.heap.size 5 1 v' (4*j+(q+1)) (Lib.byteCells (D.take (4*j+(q+1)))):=by
         have e:D.take (4*j+(q+1))=D.take (4*j+q)++[D[4*j+q]'(by omega)]:=by rw [← Nat.add_assoc,List.take_add_one,List.getElem?_eq_getElem (show 4*j+q < D.length by omega)];rfl
         rw [e,← byteCells_append,hd,← Nat.add_assoc];rw [byte_of Y] at hown6;exact hown6
        clear hown6 hgrow6;go_wp2_with fail
        refine ⟨?relCx,?measureCx⟩
        case relCx=>exact ⟨q+1,by omega,by go_num,by rw [HN.out],HO9,hR9,hbw9,hs9⟩
        case measureCx=>simp [RowKit.intOf];omega
       ·obtain rfl:q=4:=by omega
        go_wp2_with fail
        refine ⟨?relBx,?measureBx⟩
        case relBx=>exact ⟨j+1,by omega,by go_num,by rw [Nat.mul_add];exact HO,HR8,hbw8,hs8⟩
        case measureBx=>simp [RowKit.intOf];omega
     ·obtain rfl:j=8:=by omega
      have e32:D.take (4*8)=D:=List.take_of_length_le (by omega);have hO8:=HO.out;rw [e32] at hO8;have hst:=owns_string (P:=Tryz.prog) hO8 (by omega) 94 9 Tryz.underlying94 Tryz.underlying5 Tryz.underlying9;clear HO hO8 e32;go_wp2_with fail
      go_ret
      exact ⟨by rw [HD.out];rfl,hbw7⟩
   ·refine AllReady.cons rfl (fun K' hK=>?_) AllReady.nil
    go_simp
    refine (rpad_any _ ld _).mono ?_;rintro e w2 ⟨rfl,hb2⟩;have hR2:Row w2 w.heap.size 99 (fk H S k):=(hb2.block _ hgl).trans hrow;have hbw2:Below w.heap.size w w2:=hbw.drew.trans (hb2.mono (by show w.heap.size≤wr.heap.size;omega));have d0:(w2).cell? ⟨w.heap.size,0,none⟩=some (.int .u32 (at_ (fk H S k) 0)):=by rw [(hR2).cell 0 (by omega),at_eq]
    have d1:(w2).cell? ⟨w.heap.size,1,none⟩=some (.int .u32 (at_ (fk H S k) 1)):=by rw [(hR2).cell 1 (by omega),at_eq]
    have d2:(w2).cell? ⟨w.heap.size,2,none⟩=some (.int .u32 (at_ (fk H S k) 2)):=by rw [(hR2).cell 2 (by omega),at_eq]
    have d3:(w2).cell? ⟨w.heap.size,3,none⟩=some (.int .u32 (at_ (fk H S k) 3)):=by rw [(hR2).cell 3 (by omega),at_eq]
    have d4:(w2).cell? ⟨w.heap.size,4,none⟩=some (.int .u32 (at_ (fk H S k) 4)):=by rw [(hR2).cell 4 (by omega),at_eq]
    have d5:(w2).cell? ⟨w.heap.size,5,none⟩=some (.int .u32 (at_ (fk H S k) 5)):=by rw [(hR2).cell 5 (by omega),at_eq]
    have d6:(w2).cell? ⟨w.heap.size,6,none⟩=some (.int .u32 (at_ (fk H S k) 6)):=by rw [(hR2).cell 6 (by omega),at_eq]
    have d7:(w2).cell? ⟨w.heap.size,7,none⟩=some (.int .u32 (at_ (fk H S k) 7)):=by rw [(hR2).cell 7 (by omega),at_eq]
    refine hK _ _ ?_;clear hK K';refine wpAny_ready (rs:=[0]) (by kernel_rfl) (by simp) ?_;refine AllReady.cons rfl (fun K' hK=>?_) AllReady.nil;go_simp
    refine hK _ _ ?_;clear hK K';refine wpAny_ready (rs:=[8]) (by kernel_rfl) (by simp) ?_;refine AllReady.cons rfl (fun K' hK=>?_) AllReady.nil;go_simp
    refine (hC w2).mono ?_;rintro e w4 ⟨rfl,hb4⟩;have hr4:w4.heap[w.heap.size]?=some (.cells (wv (fk H S k)) 99 (0,0)):=(hb4.block _ hR2.lt).trans hR2;have hbw4:Below w.heap.size w w4:=hbw2.trans (hb4.mono hbw2.size);refine hK _ _ ?_;clear hK K';refine wpAny_take (i:=9) (v:=.tuple #[.agg (wv R),.int .i64 0]) rfl (by kernel_rfl) (by kernel_rfl) (by kernel_rfl) (fun _ _ _ h=>h) (Or.inl ⟨by rfl,fun w=>by go_simp⟩) ?_;refine wpAny_take (i:=10) (v:=.agg (wv R)) rfl (by kernel_rfl) (by kernel_rfl) (by kernel_rfl) (fun _ _ _ h=>h) (Or.inl ⟨by rfl,fun w=>by go_simp⟩) ?_;refine wpAny_take (i:=11) (v:=.int .i64 0) rfl (by kernel_rfl) (by kernel_rfl) (by kernel_rfl) (fun _ _ _ h=>h) (Or.inl ⟨by rfl,fun w=>by go_simp⟩) ?_
    refine any_seqI [12] [_] _ _ _ rfl (by kernel_rfl) ?_;refine wpList_store_row rfl 99 _ _ rfl w.heap.size (wv R) rfl rfl 99 (wv (fk H S k)) hr4 hszR (by rw [wv_size,wv_size,lk,lr]) (wv_one _) ?_;have rh5:(w4.setRow w.heap.size (wv R)).heap[w.heap.size]?=some (.cells (wv R) 99 (0,0)):=setRow_heap _ _ _ _ _ _ hr4;have hb5:Below w.heap.size w (w4.setRow w.heap.size (wv R)):=below_setRow hbw4 (by omega) _;obtain ⟨w5,hw5⟩:∃ w5,w4.setRow w.heap.size (wv R)=w5:=⟨_,rfl⟩;change wpList _ _ _ _ _ (w4.setRow w.heap.size (wv R));rw [hw5] at rh5 hb5 ⊢;clear hw5;go_wp2_with fail
    have hlt5:w.heap.size < w5.heap.size:=Row.lt rh5;go_loopw [6,7] (fun v i wq=>∃ j:Nat,j≤8∧i=.int .i64 j∧Hid (wq.ownsRow w5.heap.size 5 1 v (4*j) (Lib.byteCells (D.take (4*j))))∧Hid (Row wq w.heap.size 99 R)∧Below w.heap.size w wq∧w5.heap.size≤wq.heap.size) (fun _ i _=>8 - (RowKit.intOf i).toNat)
    case atStart=>exact ⟨0,by omega,rfl,World.ownsRow_nil _ _ _ _,rh5,hb5,Nat.le_refl _⟩
    case round =>
     obtain ⟨j,hj,rfl,HO,HR7,hbw7,hs7⟩:=hrel
     by_cases hl3:j < 8
     ·have i4:(j:Int) < 8:=by omega
      have rj:=rng j hl3;have c0:wr.cell? ⟨w.heap.size,j,none⟩=some (.int .u32 (at_ R j)):=by rw [HR7.out.cell j (by omega),at_eq]
      obtain ⟨X,hX⟩:∃ X,at_ R j=X:=⟨_,rfl⟩
      have hDX:∀ q,q < 4→∀ h:4*j+q < D.length,D[4*j+q]'h=UInt8.ofNat (X / 256 ^ q % 256).toNat:=by
       intro q hq h;rw [← hX];exact hDg j q hq h
      rw [hX] at c0 rj;clear hX;go_wp2_with fail
      go_loopw [6,8,9] (fun v y i wq=>∃ q:Nat,q≤4∧i=.int .i64 q∧y=.int .u32 (X / 256 ^ q)∧Hid (wq.ownsRow w5.heap.size 5 1 v (4*j+q) (Lib.byteCells (D.take (4*j+q))))∧Hid (Row wq w.heap.size 99 R)∧Below w.heap.size w wq∧w5.heap.size≤wq.heap.size) (fun _ _ i _=>4 - (RowKit.intOf i).toNat)
      case atStart=>exact ⟨0,by omega,rfl,by simp,HO,HR7,hbw7,hs7⟩
      case round =>
       obtain ⟨q,hq,rfl,rfl,HO,HR8,hbw8,hs8⟩:=hrel
       by_cases hl4:q < 4
       ·have i5:(q:Int) < 4:=by omega
        have hd:=hDX q hl4 (by omega);have hnext:X / 256 ^ (q+1)=X / 256 ^ q / 256:=by rw [Int.pow_succ,Int.ediv_ediv_of_nonneg (Int.pow_nonneg (by omega))]
        have hnn:0≤X / 256 ^ q:=Int.ediv_nonneg rj.1 (Int.pow_nonneg (by omega))
        have hle:X / 256 ^ q < 4294967296:=by
         have h1:X / 256 ^ q≤X:=Int.ediv_le_self _ rj.1;omega
        obtain ⟨Y,hY⟩:∃ Y,X / 256 ^ q=Y:=⟨_,rfl⟩;have HN:Hid (X / 256 ^ (q+1)=Y / 256):=by rw [← hY];exact hnext
        rw [hY] at hd hnn hle;simp only [hY];clear hnext hY;have x1:IntKind.u8.wrap (Y % 256)=Y % 256:=by rw [IntKind.wrap_u8];omega
        go_wp2_with (at_builtin;refine wpList_append_own _ rfl _ _ 94 rfl w5.heap.size 5 i0 (.int .u8 0) 1 1 Tryz.underlying94 hi hz0 hz1 hz2 rfl (by decide) _ _ _ rfl (HO.out.alloc _) ⟨wr.heap.size,0,none⟩ 1 1 [.int .u8 (Y % 256)] rfl rfl ?d1y ?d2y ?d3y ?d4y ?d5y ?_)
        case d1y =>
         intro j u hj
         match j,hj with
         | 0,hj=>simp at hj;subst hj;simp [Addr.add]
        case d2y=>intro u hu;simp at hu;subst hu;rfl
        case d3y=>unfold maxLen;omega
        case d4y=>omega
        case d5y=>simp;omega
        intro v' w6 hown6 hgrow6 _
        have hblk:∀ k,(u6:Value).ownBlock=some k→w5.heap.size≤k:=fun k hk=>by
         rcases HO.out.2 with ⟨hv,_⟩ | ⟨g,cap,cur,hv,hbg,_⟩
         ·rw [hv] at hk;simp [Value.ownBlock] at hk
         ·rw [hv] at hk;simp [Value.ownBlock] at hk;omega
        have hR9:Row w6 w.heap.size 99 R:=(hgrow6.block _ (by simp;have:=HR8.out.lt;omega) (fun e=>by have:=hblk _ e.symm;omega)).trans (HR8.out.alloc _);have hbw9:Below w.heap.size w w6:=(hbw8.alloc (by omega) _).grown hgrow6 (by simp;omega) (fun k hk=>by have:=hblk k hk;omega);have hs9:w5.heap.size≤w6.heap.size:=by have:=hgrow6.size;simp at this;omega
        have HO9:w6.ownsRow w5.heap.size 5 1 v' (4*j+(q+1)) (Lib.byteCells (D.take (4*j+(q+1)))):=by
         have e:D.take (4*j+(q+1))=D.take (4*j+q)++[D[4*j+q]'(by omega)]:=by rw [← Nat.add_assoc,List.take_add_one,List.getElem?_eq_getElem (show 4*j+q < D.length by omega)];rfl
         rw [e,← byteCells_append,hd,← Nat.add_assoc];rw [byte_of Y] at hown6;exact hown6
        clear hown6 hgrow6;go_wp2_with fail
        refine ⟨?relCy,?measureCy⟩
        case relCy=>exact ⟨q+1,by omega,by go_num,by rw [HN.out],HO9,hR9,hbw9,hs9⟩
        case measureCy=>simp [RowKit.intOf];omega
       ·obtain rfl:q=4:=by omega
        go_wp2_with fail
        refine ⟨?relBy,?measureBy⟩
        case relBy=>exact ⟨j+1,by omega,by go_num,by rw [Nat.mul_add];exact HO,HR8,hbw8,hs8⟩
        case measureBy=>simp [RowKit.intOf];omega
     ·obtain rfl:j=8:=by omega
      have e32:D.take (4*8)=D:=List.take_of_length_le (by omega);have hO8:=HO.out;rw [e32] at hO8;have hst:=owns_string (P:=Tryz.prog) hO8 (by omega) 94 9 Tryz.underlying94 Tryz.underlying5 Tryz.underlying9;clear HO hO8 e32;go_wp2_with fail
      go_ret
      exact ⟨by rw [HD.out];rfl,hbw7⟩
end Go.Proofs.YthamoeekiglphaaGreatDoor
namespace Go.Proofs.YthamoeekiglphaaGreatDoor
set_option maxRecDepth 100000
open Go.RowKit
set_option linter.unusedVariables false
attribute [local go_sem] ba_size ba_get ba_extract ba_append take_drop_end wv_get wv_getE wv_set wv_size
set_option maxHeartbeats 1000000 in
theorem rkeyed_none (S:List UInt8) (w:World) :
 Calls Tryz.prog 138 #[.string ⟨#[]⟩,.string ⟨S.toArray⟩] w fun e w'=>e=.returned (.tuple #[.string ⟨#[]⟩,.int .i64 1])∧Below w.heap.size w w':=by
 go_enter Tryz.func138,Tryz.ntmps138
 go_wp2_with fail
 go_ret2
 exact ⟨rfl,Below.refl _ _⟩
set_option maxHeartbeats 1000000 in
theorem rkeyed_long (K S:List UInt8) (hK:32 < K.length) (w:World) :
 Calls Tryz.prog 138 #[.string ⟨K.toArray⟩,.string ⟨S.toArray⟩] w fun e w'=>e=.returned (.tuple #[.string ⟨#[]⟩,.int .i64 1])∧Below w.heap.size w w':=by
 have i0:¬ (K.length:Int) < 1:=by omega
 have i1:(32:Int) < (K.length:Int):=by omega
 go_enter Tryz.func138,Tryz.ntmps138
 go_wp2_with fail
 go_ret2
 exact ⟨rfl,Below.refl _ _⟩
set_option maxHeartbeats 2000000 in
theorem rkeyed_good (K S:List UInt8) (h1:1≤K.length) (h32:K.length≤32) (hS:S.length≤9223372036854774000) (w:World) :
 Calls Tryz.prog 138 #[.string ⟨K.toArray⟩,.string ⟨S.toArray⟩] w fun e w'=>e=.returned (.tuple #[.string ⟨(keyL K S).toArray⟩,.int .i64 0])∧Below w.heap.size w w':=by
 have i0:¬ (K.length:Int) < 1:=by omega
 have i1:¬ (32:Int) < (K.length:Int):=by omega
 have hK64:K.length≤64:=by omega
 have lsum:64+S.length≤9223372036854775807:=by omega
 have hs:=rstart_good (K.length:Int) (by omega) (by omega) w;have lp:=padL_len K hK64;have hF0:=fun H lH w1=>rall_any H lH (padL K++S) (by rw [List.length_append];omega) w1
 have lH:(startL K.length).length=8:=rfl;have hkey:keyL K S=fl (foldL (startL K.length) (padL K++S)) 32:=rfl;obtain ⟨H,hH⟩:∃ H,startL K.length=H:=⟨_,rfl⟩;rw [hH] at hs lH hkey
 have hF:∀ w1,Calls Tryz.prog 58 #[.agg #[.int .u32 (at_ H 0),.int .u32 (at_ H 1),.int .u32 (at_ H 2),.int .u32 (at_ H 3),.int .u32 (at_ H 4),.int .u32 (at_ H 5),.int .u32 (at_ H 6),.int .u32 (at_ H 7)],.string ⟨(padL K++S).toArray⟩] w1 fun e w'=>e=.returned (.string ⟨(keyL K S).toArray⟩)∧Below w1.heap.size w1 w':=fun w1=>by
  have h':=hF0 H lH w1;rw [rwv8 H lH,← hkey] at h';exact h'
 clear hF0 hkey hH;obtain ⟨D,hD⟩:∃ D,keyL K S=D:=⟨_,rfl⟩;rw [hD] at hF ⊢;clear hD;have hsz:(Tryz.prog.info? 99).map (·.size)=some (wv H).size:=by rw [rsize8_true,wv_size,lH]
 go_enter Tryz.func138,Tryz.ntmps138
 go_wp2_with fail
 refine hs.mono ?_;rintro e w1 ⟨rfl,hb1⟩;go_upto_region 4 with (refine wpList_store_row rfl 99 _ _ rfl w1.heap.size (wv H) rfl rfl 99 (wv Z8) (heap_alloc_new w1 _) hsz (by rw [wv_size,wv_size,lH];rfl) (wv_one _) ?_)
 change Code.wp _ _ _ _ ((w1.alloc (.cells (wv Z8) 99)).setRow w1.heap.size (wv H));obtain ⟨w3,hw3⟩:∃ w3,(w1.alloc (.cells (wv Z8) 99)).setRow w1.heap.size (wv H)=w3:=⟨_,rfl⟩;have hR3:Row w3 w1.heap.size 99 H:=by rw [← hw3];exact setRow_heap _ _ _ _ _ _ (heap_alloc_new w1 _)
 have hbw3:Below w.heap.size w w3:=by rw [← hw3];exact below_setRow (hb1.alloc hb1.size _) hb1.size _
 rw [hw3];clear hw3;have hgs:=hb1.size;obtain ⟨gh,hgh⟩:∃ gh,w1.heap.size=gh:=⟨_,rfl⟩;rw [hgh] at hR3 hgs;simp only [hgh];clear hb1 hgh hs;go_wp2_with fail
 refine wp_region_any (by kernel_rfl) ?_;change wpAny _ _ _ _ _ _ _ (World.drew _);refine wpAny_take (i:=1) (v:=.string ⟨K.toArray⟩) rfl (by kernel_rfl) (by kernel_rfl) (by kernel_rfl) (fun _ _ _ h=>h) (Or.inl ⟨by rfl,fun w=>by go_simp⟩) ?_;refine wpAny_take (i:=3) (v:=.string ⟨S.toArray⟩) rfl (by kernel_rfl) (by kernel_rfl) (by kernel_rfl) (fun _ _ _ h=>h) (Or.inl ⟨by rfl,fun w=>by go_simp⟩) ?_;have c0:(w3).cell? ⟨gh,0,none⟩=some (.int .u32 (at_ H 0)):=by rw [(hR3).cell 0 (by omega),at_eq]
 have c1:(w3).cell? ⟨gh,1,none⟩=some (.int .u32 (at_ H 1)):=by rw [(hR3).cell 1 (by omega),at_eq]
 have c2:(w3).cell? ⟨gh,2,none⟩=some (.int .u32 (at_ H 2)):=by rw [(hR3).cell 2 (by omega),at_eq]
 have c3:(w3).cell? ⟨gh,3,none⟩=some (.int .u32 (at_ H 3)):=by rw [(hR3).cell 3 (by omega),at_eq]
 have c4:(w3).cell? ⟨gh,4,none⟩=some (.int .u32 (at_ H 4)):=by rw [(hR3).cell 4 (by omega),at_eq]
 have c5:(w3).cell? ⟨gh,5,none⟩=some (.int .u32 (at_ H 5)):=by rw [(hR3).cell 5 (by omega),at_eq]
 have c6:(w3).cell? ⟨gh,6,none⟩=some (.int .u32 (at_ H 6)):=by rw [(hR3).cell 6 (by omega),at_eq]
 have c7:(w3).cell? ⟨gh,7,none⟩=some (.int .u32 (at_ H 7)):=by rw [(hR3).cell 7 (by omega),at_eq]
 refine wpAny_ready (rs:=[0,2]) (by kernel_rfl) (by simp) ?_;refine AllReady.cons rfl (fun K' hK=>?_) ?_
 ·go_simp
  refine hK _ _ ?_;clear hK K';refine wpAny_ready (rs:=[2]) (by kernel_rfl) (by simp) ?_;refine AllReady.cons rfl (fun K' hK=>?_) AllReady.nil;go_simp
  refine (rpad_any K hK64 _).mono ?_;rintro e w4 ⟨rfl,hb4⟩;have hR4:Row w4 gh 99 H:=(hb4.block _ (Row.lt hR3)).trans hR3;have hbw4:Below w.heap.size w w4:=hbw3.drew.trans (hb4.mono hbw3.size);refine hK _ _ ?_;clear hK K';refine wpAny_take (i:=4) (v:=.string ⟨(padL K++S).toArray⟩) rfl (by kernel_rfl) (by kernel_rfl) (by kernel_rfl) (fun _ _ _ h=>h) (Or.inl ⟨by rfl,fun w=>by go_simp⟩) ?_;refine wpAny_ready (rs:=[5]) (by kernel_rfl) (by simp) ?_;refine AllReady.cons rfl (fun K' hK=>?_) AllReady.nil;go_simp
  refine (hF w4).mono ?_;rintro e w5 ⟨rfl,hb5⟩;refine hK _ _ ?_;clear hK K';refine any_seqI [6,7] [_,_] _ _ _ rfl (by kernel_rfl) ?_;go_wp2_with fail
  go_ret2
  exact ⟨rfl,bel_trans hbw4 hb5⟩
 ·refine AllReady.cons rfl (fun K' hK=>?_) AllReady.nil
  go_simp
  refine (rpad_any K hK64 _).mono ?_;rintro e w4 ⟨rfl,hb4⟩;have hR4:Row w4 gh 99 H:=(hb4.block _ (Row.lt hR3)).trans hR3;have hbw4:Below w.heap.size w w4:=hbw3.drew.trans (hb4.mono hbw3.size);have d0:(w4).cell? ⟨gh,0,none⟩=some (.int .u32 (at_ H 0)):=by rw [(hR4).cell 0 (by omega),at_eq]
  have d1:(w4).cell? ⟨gh,1,none⟩=some (.int .u32 (at_ H 1)):=by rw [(hR4).cell 1 (by omega),at_eq]
  have d2:(w4).cell? ⟨gh,2,none⟩=some (.int .u32 (at_ H 2)):=by rw [(hR4).cell 2 (by omega),at_eq]
  have d3:(w4).cell? ⟨gh,3,none⟩=some (.int .u32 (at_ H 3)):=by rw [(hR4).cell 3 (by omega),at_eq]
  have d4:(w4).cell? ⟨gh,4,none⟩=some (.int .u32 (at_ H 4)):=by rw [(hR4).cell 4 (by omega),at_eq]
  have d5:(w4).cell? ⟨gh,5,none⟩=some (.int .u32 (at_ H 5)):=by rw [(hR4).cell 5 (by omega),at_eq]
  have d6:(w4).cell? ⟨gh,6,none⟩=some (.int .u32 (at_ H 6)):=by rw [(hR4).cell 6 (by omega),at_eq]
  have d7:(w4).cell? ⟨gh,7,none⟩=some (.int .u32 (at_ H 7)):=by rw [(hR4).cell 7 (by omega),at_eq]
  refine hK _ _ ?_;clear hK K';refine wpAny_take (i:=4) (v:=.string ⟨(padL K++S).toArray⟩) rfl (by kernel_rfl) (by kernel_rfl) (by kernel_rfl) (fun _ _ _ h=>h) (Or.inl ⟨by rfl,fun w=>by go_simp⟩) ?_;refine wpAny_ready (rs:=[0]) (by kernel_rfl) (by simp) ?_;refine AllReady.cons rfl (fun K' hK=>?_) AllReady.nil;go_simp
  refine hK _ _ ?_;clear hK K';refine wpAny_ready (rs:=[5]) (by kernel_rfl) (by simp) ?_;refine AllReady.cons rfl (fun K' hK=>?_) AllReady.nil;go_simp
  refine (hF w4).mono ?_;rintro e w5 ⟨rfl,hb5⟩;refine hK _ _ ?_;clear hK K';refine any_seqI [6,7] [_,_] _ _ _ rfl (by kernel_rfl) ?_;go_wp2_with fail
  go_ret2
  exact ⟨rfl,bel_trans hbw4 hb5⟩
end Go.Proofs.YthamoeekiglphaaGreatDoor
namespace Go.Proofs.YthamoeekiglphaaGreatDoor
set_option maxRecDepth 100000
open Go.RowKit
set_option linter.unusedVariables false
attribute [local go_sem] ba_size ba_append
theorem rkeyed_any (k s:List UInt8) (hs:s.length≤9223372036854774000) (w:World) :
 Calls Tryz.prog 138 #[.string ⟨k.toArray⟩,.string ⟨s.toArray⟩] w fun e w'=>e=.returned (.tuple #[.string ⟨(keyP k s).1.toArray⟩,.int .i64 ((keyP k s).2:Int)])∧Below w.heap.size w w':=by
 unfold keyP
 by_cases h:mayK k
 ·rw [if_pos h];exact rkeyed_good k s h.1 h.2 hs w
 ·rw [if_neg h]
  by_cases h1:32 < k.length
  ·exact rkeyed_long k s h1 w
  ·have h0:k.length=0:=by unfold mayK at h;omega
   obtain rfl:=List.length_eq_zero_iff.1 h0;exact rkeyed_none s w
theorem rkeytag_any (s k:List UInt8) (hk:k.length≤9223372036854770000) (w:World) :
 Calls Tryz.prog 125 #[.string ⟨s.toArray⟩,.string ⟨k.toArray⟩] w fun e w'=>e=.returned (.tuple #[.string ⟨(keyTagP s k).1.toArray⟩,.int .i64 ((keyTagP s k).2:Int)])∧Below w.heap.size w w':=by
 have T1:=rkeyed_any s (5::k) (by simp;omega) w;unfold keyTagP;obtain ⟨⟨x,y⟩,hx⟩:∃ x,keyP s (5::k)=x:=⟨_,rfl⟩;rw [hx] at T1 ⊢;clear hx;have k3:1+k.length≤9223372036854775807:=by omega
 go_enter Tryz.func125,Tryz.ntmps125
 go_wp2_with fail
 refine T1.mono ?_;rintro e w1 ⟨rfl,hb1⟩;go_wp2_with fail
 go_ret2
 exact ⟨rfl,hb1⟩
theorem rvaltag_any (s v:List UInt8) (hv:v.length≤9223372036854770000) (w:World) :
 Calls Tryz.prog 126 #[.string ⟨s.toArray⟩,.string ⟨v.toArray⟩] w fun e w'=>e=.returned (.tuple #[.string ⟨(valTagP s v).1.toArray⟩,.int .i64 ((valTagP s v).2:Int)])∧Below w.heap.size w w':=by
 have T1:=rkeyed_any s (6::v) (by simp;omega) w;have k3:1+v.length≤9223372036854775807:=by omega
 unfold valTagP
 by_cases hs:mayK s
 ·rw [show keyP s (6::v)=(keyL s (6::v),0) by unfold keyP;rw [if_pos hs]] at T1
  rw [if_pos hs];unfold tagV;obtain ⟨x,hx⟩:∃ x,keyL s (6::v)=x:=⟨_,rfl⟩;rw [hx] at T1 ⊢;clear hx hs
  by_cases h0:v=[]
  ·subst h0
   rw [if_pos rfl];go_enter Tryz.func126,Tryz.ntmps126
   go_wp2_with fail
   refine T1.mono ?_;rintro e w1 ⟨rfl,hb1⟩;go_wp2_with fail
   go_ret2
   exact ⟨rfl,hb1⟩
  ·rw [if_neg h0]
   have n0:v.isEmpty=false:=by
    cases v with
    | nil=>exact absurd rfl h0
    | cons _ _=>rfl
   clear h0;go_enter Tryz.func126,Tryz.ntmps126
   go_wp2_with fail
   refine T1.mono ?_;rintro e w1 ⟨rfl,hb1⟩;go_wp2_with fail
   go_ret2
   exact ⟨rfl,hb1⟩
 ·rw [show keyP s (6::v)=([],1) by unfold keyP;rw [if_neg hs]] at T1
  rw [if_neg hs];clear hs;go_enter Tryz.func126,Tryz.ntmps126
  go_wp2_with fail
  refine T1.mono ?_;rintro e w1 ⟨rfl,hb1⟩;go_wp2_with fail
  go_ret2
  exact ⟨rfl,hb1⟩
set_option maxHeartbeats 2000000 in
theorem rone_any (s:List UInt8) (k t:Int) (a b:List UInt8) (w:World) :
 Calls Tryz.prog 100 #[.string ⟨s.toArray⟩,evW (k,t,a,b)] w fun e w'=>e=.returned (.tuple #[evW (oneP s (k,t,a,b)).1,.int .i64 ((oneP s (k,t,a,b)).2:Int)])∧Below w.heap.size w w':=by
 have X0:=(SBox.new w 53 #[.int .i64 k,.int .i64 t,.string ⟨a.toArray⟩,.string ⟨b.toArray⟩]).alloc (.cells #[.int .i64 0,.int .i64 0,.string ⟨#[]⟩,.string ⟨#[]⟩] 53);have R0:=SBox.new (w.alloc (.cells #[.int .i64 k,.int .i64 t,.string ⟨a.toArray⟩,.string ⟨b.toArray⟩] 53)) 53 #[.int .i64 0,.int .i64 0,.string ⟨#[]⟩,.string ⟨#[]⟩];rw [show (w.alloc (.cells #[.int .i64 k,.int .i64 t,.string ⟨a.toArray⟩,.string ⟨b.toArray⟩] 53)).heap.size=w.heap.size+1 by simp] at R0;have B00:=(Below.refl w.heap.size w).alloc (Nat.le_refl _) (.cells #[.int .i64 k,.int .i64 t,.string ⟨a.toArray⟩,.string ⟨b.toArray⟩] 53);have B0:=B00.alloc B00.size (.cells #[.int .i64 0,.int .i64 0,.string ⟨#[]⟩,.string ⟨#[]⟩] 53)
 have M:Hid (∀ W,Calls Tryz.prog 31 #[.agg #[.int .i64 k,.int .i64 t,.string ⟨a.toArray⟩,.string ⟨b.toArray⟩]] W fun e w'=>e=.returned (.bool (decide (mayE (k,t,a,b))))∧Below W.heap.size W w'):=fun W=>rmay_any k t a b W
 by_cases hm:mayE (k,t,a,b)∧mayK s
 ·obtain ⟨hm,hs⟩:=hm
  rw [oneP_ok s _ hm hs];rw [decide_eq_true hm] at M;have i3:¬ (s.length:Int) < 1:=by have:=hs.1;omega
  have i4:¬ (32:Int) < (s.length:Int):=by have:=hs.2;omega
  by_cases hk:k=2∨k=3
  ·have hl:=((mayE_key hk).1 hm).2
   have A1:=fun W=>rkeytag_any s a (by omega) W
   have A2:=fun W=>rvaltag_any s b (by omega) W
   unfold keyTagP keyP at A1;unfold valTagP at A2;rw [if_pos hs] at A1 A2
   have HE:Hid (tagE (keyL s) (k,t,a,b)=(k,t,keyL s (5::a),tagV (keyL s) b)):=by
    show _=_;unfold tagE tagK;rw [if_pos (show keyedE k from hk)]
   obtain ⟨p,hp⟩:∃ p,keyL s (5::a)=p:=⟨_,rfl⟩;obtain ⟨q,hq⟩:∃ q,tagV (keyL s) b=q:=⟨_,rfl⟩;rw [hp,hq] at HE;rw [hp] at A1;rw [hq] at A2;rw [HE.out]
   have qk:(k==2)=true∨(k==2)=false∧(k==3)=true:=by
    rcases hk with h | h
    ·left;rw [h];rfl
    ·right;rw [h];exact ⟨rfl,rfl⟩
   clear hp hq hl hm hs hk;rcases qk with k2 | ⟨k2,k3⟩
   all_goals
    go_enter Tryz.func100,Tryz.ntmps100
    go_wp2_with fail
    refine (M.out _).mono ?_;rintro e w1 ⟨rfl,b1⟩;have X1:=X0.below b1;have R1:=R0.below b1;have x0:=X1.cell 0 _ rfl;have x2:=X1.cell 2 _ rfl;go_wp2_with fail
    refine (A1 _).mono ?_;rintro e w2 ⟨rfl,b2⟩;have X2:=X1.below b2;have R2:=R1.below b2;have y2:=X2.cell 2 _ rfl;have y3:=X2.cell 3 _ rfl;have f2:=X2.frozen 2;have X3:=X2.set 2 (.string ⟨p.toArray⟩);have R3:=R2.other w.heap.size 2 (.string ⟨p.toArray⟩) (by omega);have B3:=(bel_trans (bel_trans B0 b1) b2).setCell (p:=⟨w.heap.size,2,none⟩) (Nat.le_refl _) (.string ⟨p.toArray⟩);go_wp2_with fail
    refine (A2 _).mono ?_;rintro e w4 ⟨rfl,b4⟩;have X4:=X3.below b4;have R4:=R3.below b4;have B4:=bel_trans B3 b4;clear x0 x2 y2 y3 f2;have z0:=X4.cell 0 _ rfl;have z1:=X4.cell 1 _ rfl;have z2:=X4.cell 2 _ rfl;have z3:=X4.cell 3 _ rfl;have f3:=X4.frozen 3;have r0:=R4.cell 0 _ rfl;have r1:=R4.cell 1 _ rfl;have r2:=R4.cell 2 _ rfl;have r3:=R4.cell 3 _ rfl;have g0:=R4.frozen 0;have g1:=R4.frozen 1;have g2:=R4.frozen 2;have g3:=R4.frozen 3;have R5:=R4.other w.heap.size 3 (.string ⟨q.toArray⟩) (by omega);have B5:=B4.setCell (p:=⟨w.heap.size,3,none⟩) (Nat.le_refl _) (.string ⟨q.toArray⟩);go_wp2_with fail
    generalize hW:World.setCell _ _ _=W;have RW:SBox W (w.heap.size+1) 53 #[.int .i64 k,.int .i64 t,.string ⟨p.toArray⟩,.string ⟨q.toArray⟩]:=by rw [← hW];exact R5.put4 _ _ _ _
    have BZ:Below w.heap.size w W:=by rw [← hW];exact bel_put4 B5 (Nat.le_succ _) _ _ _ _
    exact bodyPost_ret (v:=.tuple #[evW (k,t,p,q),.int .i64 0]) (results_row_tmp Tryz.results100 _ _ (w.heap.size+1) 53 _ (0,0) _ rfl RW Tryz.underlying53 rfl size_ev7) rfl ⟨rfl,BZ⟩
  ·have HE:Hid (tagE (keyL s) (k,t,a,b)=(k,t,a,b)):=by
    show _=_;unfold tagE;rw [if_neg (show ¬ keyedE k from hk)]
   rw [HE.out];have k2:(k==2)=false:=beq_eq_false_iff_ne.2 (fun h=>hk (Or.inl h));have k3:(k==3)=false:=beq_eq_false_iff_ne.2 (fun h=>hk (Or.inr h));clear hk hm hs;go_enter Tryz.func100,Tryz.ntmps100
   go_wp2_with fail
   refine (M.out _).mono ?_;rintro e w1 ⟨rfl,b1⟩;have X1:=X0.below b1;have R1:=R0.below b1;have B1:=bel_trans B0 b1;have z0:=X1.cell 0 _ rfl;have z1:=X1.cell 1 _ rfl;have z2:=X1.cell 2 _ rfl;have z3:=X1.cell 3 _ rfl;have r0:=R1.cell 0 _ rfl;have r1:=R1.cell 1 _ rfl;have r2:=R1.cell 2 _ rfl;have r3:=R1.cell 3 _ rfl;have g0:=R1.frozen 0;have g1:=R1.frozen 1;have g2:=R1.frozen 2;have g3:=R1.frozen 3;go_wp2_with fail
   generalize hW:World.setCell _ _ _=W;have RW:SBox W (w.heap.size+1) 53 #[.int .i64 k,.int .i64 t,.string ⟨a.toArray⟩,.string ⟨b.toArray⟩]:=by rw [← hW];exact R1.put4 _ _ _ _
   have BZ:Below w.heap.size w W:=by rw [← hW];exact bel_put4 B1 (Nat.le_succ _) _ _ _ _
   exact bodyPost_ret (v:=.tuple #[evW (k,t,a,b),.int .i64 0]) (results_row_tmp Tryz.results100 _ _ (w.heap.size+1) 53 _ (0,0) _ rfl RW Tryz.underlying53 rfl size_ev7) rfl ⟨rfl,BZ⟩
 ·rw [oneP_no s _ hm]
  have hc:decide (mayE (k,t,a,b))=false∨decide (mayE (k,t,a,b))=true∧((s.length:Int) < 1∨¬ (s.length:Int) < 1∧(32:Int) < (s.length:Int)):=by
   by_cases h1:mayE (k,t,a,b)
   ·right
    refine ⟨decide_eq_true h1,?_⟩;have h2:¬ mayK s:=fun h=>hm ⟨h1,h⟩
    unfold mayK at h2;omega
   ·left;exact decide_eq_false h1
  obtain ⟨m,hmm⟩:∃ m,decide (mayE (k,t,a,b))=m:=⟨_,rfl⟩;rw [hmm] at M hc;clear hm hmm;rcases hc with rfl | ⟨rfl,hc | ⟨hc,hd⟩⟩
  all_goals
   go_enter Tryz.func100,Tryz.ntmps100
   go_wp2_with fail
   refine (M.out _).mono ?_;rintro e w1 ⟨rfl,b1⟩;have R1:=R0.below b1;have B1:=bel_trans B0 b1;have r0:=R1.cell 0 _ rfl;have r1:=R1.cell 1 _ rfl;have r2:=R1.cell 2 _ rfl;have r3:=R1.cell 3 _ rfl;have g0:=R1.frozen 0;have g1:=R1.frozen 1;have g2:=R1.frozen 2;have g3:=R1.frozen 3;go_wp2_with fail
   generalize hW:World.setCell _ _ _=W;have RW:SBox W (w.heap.size+1) 53 #[.int .i64 0,.int .i64 0,.string ⟨#[]⟩,.string ⟨#[]⟩]:=by rw [← hW];exact R1.put4 _ _ _ _
   have BZ:Below w.heap.size w W:=by rw [← hW];exact bel_put4 B1 (Nat.le_succ _) _ _ _ _
   exact bodyPost_ret (v:=.tuple #[evW (0,0,[],[]),.int .i64 1]) (results_row_tmp Tryz.results100 _ _ (w.heap.size+1) 53 _ (0,0) _ rfl RW Tryz.underlying53 rfl size_ev7) rfl ⟨rfl,BZ⟩
end Go.Proofs.YthamoeekiglphaaGreatDoor
namespace Go.Proofs.YthamoeekiglphaaGreatDoor
set_option maxRecDepth 100000
open Go.RowKit
set_option linter.unusedVariables false
attribute [local go_sem] ba_size
set_option maxHeartbeats 2000000 in
theorem rall7_any (s:List UInt8) (l:List Ev) (v:Value) (w:World) (hT:IsEvs w v l) :
 Calls Tryz.prog 65 #[.string ⟨s.toArray⟩,v] w fun e w'=>EvRes 53 w (allP s l) e w':=by
 obtain ⟨i0,hi,hz0,hz1,hz2⟩:=info_parts ev_info7;obtain ⟨a,cap,rfl,h1,h2,h3,HC⟩:=hT.some_at;obtain ⟨n,hn⟩:∃ n,l.length=n:=⟨_,rfl⟩;have HN:Hid (l.length=n):=hn;rw [hn] at h1 h3 ⊢;clear hT hn
 by_cases hbig:256 < n
 ·rw [allP_big s l (by have:=HN.out;omega)]
  have j:(256:Int) < (n:Int):=by omega
  go_enter Tryz.func65,Tryz.ntmps65
  go_wp2_with fail
  go_ret2
  exact ⟨_,rfl,Below.refl _ _,World.ownsRow_nil _ _ _ _⟩
 ·have j:¬ (256:Int) < (n:Int):=by omega
  go_enter Tryz.func65,Tryz.ntmps65
  go_wp2_with fail
  go_loopw [6,7] (fun r i wr=>∃ k:Nat,k≤n∧i=.int .i64 k∧Hid (allMay (l.take k)∧(mayK s∨l.take k=[]))∧Below w.heap.size w wr∧wr.ownsRow w.heap.size 53 4 r k (recV evV (tagsL (keyL s) (l.take k)))) (fun _ i _=>n - (RowKit.intOf i).toNat)
  case atStart=>exact ⟨0,Nat.zero_le _,rfl,⟨by intro x hx;simp at hx,Or.inr (by simp)⟩,Below.refl _ _,World.ownsRow_nil _ _ _ _⟩
  case round =>
   obtain ⟨k,hk,rfl,HA,hbw,hrow⟩:=hrel
   by_cases hlt:k < n
   ·have hk1:k < l.length:=by have:=HN.out;omega
    obtain ⟨bb,off,rfl,hblt,hcell⟩:=HC.out k hk1;obtain ⟨p0,p1,p2,p3⟩:=IsEvs.at hk1 hcell;have q0:=(hbw.cell (p:=⟨bb,off+k*4,none⟩) hblt).trans p0;have q1:=(hbw.cell (p:=⟨bb,off+k*4+1,none⟩) hblt).trans p1;have q2:=(hbw.cell (p:=⟨bb,off+k*4+2,none⟩) hblt).trans p2;have q3:=(hbw.cell (p:=⟨bb,off+k*4+3,none⟩) hblt).trans p3;clear p0 p1 p2 p3 hcell;obtain ⟨⟨y0,y1,y2,y3⟩,hy⟩:∃ y,l[k]=y:=⟨_,rfl⟩;have HY:Hid (l[k]=(y0,y1,y2,y3)):=hy;rw [hy] at q0 q1 q2 q3;simp only at q0 q1 q2 q3;clear hy;have C:=fun W=>rone_any s y0 y1 y2 y3 W
    by_cases hm:¬ (mayE (y0,y1,y2,y3)∧mayK s)
    ·rw [oneP_no s _ hm] at C
     have HE:Hid (allP s l=([],1)):=allP_bad s l (by have:=HN.out;omega) k hk1 (by rw [HY.out];exact hm);clear hm;go_wp2_with fail
     refine (C _).mono ?_;rintro e w1 ⟨rfl,b1⟩;have B1:=bel_trans hbw b1;go_wp2_with fail
     go_ret2
     refine ⟨_,by rw [HE.out];rfl,B1.alloc B1.size _,?_⟩;rw [HE.out];exact World.ownsRow_nil _ _ _ _
    ·have hm2:=Decidable.not_not.1 hm
     rw [oneP_ok s _ hm2.1 hm2.2] at C;obtain ⟨⟨x0,x1,x2,x3⟩,hx⟩:∃ x,tagE (keyL s) (y0,y1,y2,y3)=x:=⟨_,rfl⟩;rw [hx] at C;have HA':Hid (allMay (l.take (k+1))∧(mayK s∨l.take (k+1)=[])):=⟨allMay_next l k hk1 HA.out.1 (by rw [HY.out];exact hm2.1),Or.inl hm2.2⟩
     have HV:Hid (recV evV (tagsL (keyL s) (l.take (k+1)))=recV evV (tagsL (keyL s) (l.take k))++[.int .i64 x0,.int .i64 x1,.string ⟨x2.toArray⟩,.string ⟨x3.toArray⟩]):=by
      show _=_;rw [tagsL_next _ l k hk1,recV_snoc,HY.out,hx];rfl
     obtain ⟨D,hD⟩:∃ D,tagsL (keyL s) (l.take k)=D:=⟨_,rfl⟩;rw [hD] at hrow HV;clear hm hm2 hx hD;go_wp2_with fail
     refine (C _).mono ?_;rintro e w1 ⟨rfl,b1⟩;have B1:=bel_trans hbw b1;have hrow1:=owns_below hrow b1;have B1':=B1.alloc B1.size (.cells #[.int .i64 x0,.int .i64 x1,.string ⟨x2.toArray⟩,.string ⟨x3.toArray⟩] 53);go_wp2_with (at_builtin;refine wpList_append_own _ rfl _ _ 42 rfl w.heap.size 53 i0 (.agg #[.int .i64 0,.int .i64 0,.string ByteArray.empty,.string ByteArray.empty]) 4 48 Tryz.underlying42 hi hz0 hz1 hz2 rfl (by decide) _ _ _ rfl ((hrow1.alloc _).alloc _) ⟨w1.heap.size+1,0,none⟩ 1 1 [.int .i64 x0,.int .i64 x1,.string ⟨x2.toArray⟩,.string ⟨x3.toArray⟩] rfl rfl ?d1 ?d2 ?d3 ?d4 ?d5 ?_)
     case d1 =>
      intro j u hj
      match j,hj with
      | 0,hj=>simp at hj;subst hj;simp [Addr.add]
      | 1,hj=>simp at hj;subst hj;simp [Addr.add]
      | 2,hj=>simp at hj;subst hj;simp [Addr.add]
      | 3,hj=>simp at hj;subst hj;simp [Addr.add]
     case d2=>exact evV_one (x0,x1,x2,x3)
     case d3=>unfold maxLen;omega
     case d4=>omega
     case d5=>have:=B1.size;simp;omega
     intro v' w2 hown2 hgrow2 _;have B2:Below w.heap.size w w2:=(B1'.alloc B1'.size _).grown hgrow2 (by have:=B1'.size;simp at this ⊢;omega) (fun j hj=>(hrow1.lt j hj).1);go_wp2_with fail
     go_roundw
     case rel=>exact ⟨k+1,by omega,by first | go_num | simp,HA',B2,by rw [HV.out];exact hown2⟩
     case measure=>simp [RowKit.intOf];omega
   ·obtain rfl:k=n:=by omega
    have HF:Hid (l.take k=l):=List.take_of_length_le (by have:=HN.out;omega)
    have HE:Hid (allP s l=(tagsL (keyL s) l,0)):=by
     have:=HA.out;rw [HF.out] at this;exact allP_ok s l (by have:=HN.out;omega) this.1 this.2
    have HG:Hid ((tagsL (keyL s) l).length=k):=by
     show _=_;rw [tags_len,HN.out]
    go_wp2_with fail
    go_ret2
    refine ⟨_,by rw [HE.out];rfl,hbw,?_⟩;rw [HE.out];show World.ownsRow _ _ _ _ _ (tagsL (keyL s) l).length _;rw [HG.out];rw [HF.out] at hrow;exact hrow
attribute [local go_sem] ba_size ba_get ba_extract take_drop_end wv_get wv_getE wv_set wv_size
set_option maxHeartbeats 1000000 in
theorem rsum_any (S:List UInt8) (hS:S.length≤9223372036854775000) (w:World) :
 Calls Tryz.prog 26 #[.string ⟨S.toArray⟩] w fun e w'=>e=.returned (.string ⟨(fl (foldL (startL 0) S) 32).toArray⟩)∧Below w.heap.size w w':=by
 obtain ⟨H,hH⟩:∃ H,startL 0=H:=⟨_,rfl⟩;have lH:H.length=8:=by rw [← hH];rfl
 have hs:=rstart_good 0 (by omega) (by omega) w;rw [hH] at hs;have hsz:(Tryz.prog.info? 99).map (·.size)=some (wv H).size:=by rw [rsize8_true,wv_size,lH]
 go_enter Tryz.func26,Tryz.ntmps26
 go_wp2_with fail
 refine hs.mono ?_;rintro e w1 ⟨rfl,hb1⟩;go_upto_region 2 with (refine wpList_store_row rfl 99 _ _ rfl w1.heap.size (wv H) rfl rfl 99 (wv Z8) (heap_alloc_new w1 _) hsz (by rw [wv_size,wv_size,lH];rfl) (wv_one _) ?_)
 change Code.wp _ _ _ _ ((w1.alloc (.cells (wv Z8) 99)).setRow w1.heap.size (wv H));obtain ⟨w2,hw2⟩:∃ w2,(w1.alloc (.cells (wv Z8) 99)).setRow w1.heap.size (wv H)=w2:=⟨_,rfl⟩;have hrow2:w2.heap[w1.heap.size]?=some (.cells (wv H) 99 (0,0)):=by rw [← hw2];exact setRow_heap _ _ _ _ _ _ (heap_alloc_new w1 _)
 have hb2:Below w.heap.size w w2:=by rw [← hw2];exact below_setRow (hb1.alloc hb1.size _) hb1.size _
 rw [hw2];clear hw2;go_wp2_with (refine wpList_load_row rfl 99 _ rfl w1.heap.size rfl 99 (wv H) (0,0) _ hrow2 Tryz.underlying99 rfl hsz ?_)
 refine (rall_any H lH S hS _).mono ?_;rintro e w3 ⟨rfl,hb3⟩;go_wp2_with fail
 go_ret
 exact ⟨by rw [hH];rfl,hb2.trans (hb3.mono hb2.size)⟩
end Go.Proofs.YthamoeekiglphaaGreatDoor
namespace Go.Proofs.YthamoeekiglphaaGreatDoor
set_option maxRecDepth 100000
open Go.RowKit
set_option linter.unusedVariables false
attribute [local go_sem] ba_size ba_get ba_extract ba_append take_drop_end
theorem sumL_len (S:List UInt8):(sumL S).length=32:=fl_len _ _
theorem rsumL_any (S:List UInt8) (hS:S.length≤9223372036854775000) (w:World) :
 Calls Tryz.prog 26 #[.string ⟨S.toArray⟩] w fun e w'=>e=.returned (.string ⟨(sumL S).toArray⟩)∧Below w.heap.size w w':=rsum_any S hS w
set_option maxHeartbeats 400000 in
theorem rleafIn_any (s:List UInt8) (hs:s.length≤1125899906842624) (w:World) :
 Calls Tryz.prog 86 #[.string ⟨s.toArray⟩] w fun e w'=>e=.returned (.string ⟨(leafI s).toArray⟩)∧Below w.heap.size w w':=by
 go_enter Tryz.func86,Tryz.ntmps86
 go_wp2
 go_ret
 exact ⟨rfl,Below.refl _ _⟩
set_option maxHeartbeats 400000 in
theorem rnodeIn_any (a b:List UInt8) (ha:a.length≤1125899906842624) (hb:b.length≤1125899906842624) (w:World) :
 Calls Tryz.prog 87 #[.string ⟨a.toArray⟩,.string ⟨b.toArray⟩] w fun e w'=>e=.returned (.string ⟨(nodeI a b).toArray⟩)∧Below w.heap.size w w':=by
 have h1:1+a.length+b.length≤9223372036854775807:=by omega
 go_enter Tryz.func87,Tryz.ntmps87
 go_wp2
 go_ret
 exact ⟨rfl,Below.refl _ _⟩
set_option maxHeartbeats 400000 in
theorem rrootIn_any (n:Nat) (hn:n≤140737488351232) (c:List UInt8) (hc:c.length≤32) (w:World) :
 Calls Tryz.prog 22 #[.int .i64 n,.string ⟨c.toArray⟩] w fun e w'=>e=.returned (.string ⟨(rootI n c).toArray⟩)∧Below w.heap.size w w':=by
 have x1:IntKind.u64.wrap (n:Int)=n:=by rw [IntKind.wrap_u64];omega
 have hl:=Lm.numL_length n;have hcn:Lm.cnt n≤8:=Lm.cnt_le n;obtain ⟨N,hN⟩:∃ N,Lm.numL n=N:=⟨_,rfl⟩;have hc1:=refNum_any n (by omega) w;rw [hN] at hc1 hl;have hl1:1+N.length≤9223372036854775807:=by omega
 have hl2:1+N.length+c.length≤9223372036854775807:=by omega
 go_enter Tryz.func22,Tryz.ntmps22
 go_wp2_with fail
 refine hc1.mono ?_;rintro e w1 ⟨rfl,hb1⟩;go_wp2_with fail
 go_ret
 exact ⟨by unfold rootI;rw [hN];rfl,hb1⟩
set_option maxHeartbeats 400000 in
theorem rhalf_any (n:Nat) (hn:n≤140737488351232) (w:World) :
 Calls Tryz.prog 59 #[.int .i64 n] w fun e w'=>e=.returned (.int .i64 (hf n))∧Below w.heap.size w w':=by
 go_enter Tryz.func59,Tryz.ntmps59
 go_wp2
 go_loop [3] (fun i=>∃ k f:Nat,i=.int .i64 k∧1≤k∧k≤n+1∧Hid (hfGo f k n=hf n)∧n≤f+k) (fun i=>n+1 - (RowKit.intOf i).toNat)
 case atStart=>exact ⟨1,n,rfl,by omega,by omega,(rfl:_=_),by omega⟩
 case round =>
  obtain ⟨k,f,rfl,h1,hkn,hh,hfk⟩:=hrel;have x1:IntKind.i64.wrap ((k:Int)+(k:Int))=(k:Int)+(k:Int):=by rw [IntKind.wrap_i64];omega
  by_cases hlt:k+k < n
  ·have i0:(k:Int)+(k:Int) < (n:Int):=by omega
   obtain ⟨f',e1,e2⟩:=hfGo_step f k n h1 hfk hlt;have HE:Hid (hfGo f' (k+k) n=hf n):=e1.symm.trans hh.out;clear e1;go_wp2
   go_round
   case rel=>exact ⟨k+k,f',by first | go_num | (simp),by omega,by omega,HE,e2⟩
   case measure=>simp [RowKit.intOf];omega
  ·have i0:¬ (k:Int)+(k:Int) < (n:Int):=by omega
   have HE:Hid (hf n=k):=by have:=hh.out;rw [hfGo_end f k n hlt] at this;exact this.symm
   go_wp2
   go_ret
   exact ⟨by rw [HE.out];rfl,Below.refl _ _⟩
end Go.Proofs.YthamoeekiglphaaGreatDoor
namespace Go.Proofs.YthamoeekiglphaaGreatDoor
set_option maxRecDepth 100000
open Go.RowKit
set_option linter.unusedVariables false
attribute [local go_sem] ba_size
set_option maxHeartbeats 2000000 in
theorem rwanted_any (h:List Ev) (v:Vd) (n:Int) (vh vo vr:Value) (w:World) (hT:IsEvs w vh h) (hO:IsInts w vo v.2.2.1) (hR:IsEds w vr v.2.2.2.2) (hl:h.length≤100000) (hg:v.2.2.2.2.length≤100000) :
 Calls Tryz.prog 101 #[vh,.agg (vdC v vo vr),.int .i64 n] w fun e w'=>e=.returned (.bool (wantB h v n))∧Below w.heap.size w w':=by
 obtain ⟨lv0,ac,o,⟨k0,k1,k2⟩,g⟩:=v;cases ac with
 | false=>exact rwant_bad h lv0 k0 k1 k2 n o g vh vo vr w hT hO hR hl hg
 | true =>
   have HF:Hid (wantB h (lv0,true,o,(k0,k1,k2),g) n=false):=rfl;rw [HF.out];obtain ⟨ha,hc,rfl,_⟩:=hT.reads;obtain ⟨oa,oc,rfl,_⟩:=IsInts.reads hO;obtain ⟨ra,rc,rfl,_⟩:=IsEds.reads hR;clear hT hO hR HF;have X0:=SBox.new w 27 #[.int .i64 lv0,.bool true,.slice oa o.length oc,.int .i64 k0,.int .i64 k1,.int .i64 k2,.slice ra g.length rc];have B0:=(Below.refl w.heap.size w).alloc (Nat.le_refl _) (.cells #[.int .i64 lv0,.bool true,.slice oa o.length oc,.int .i64 k0,.int .i64 k1,.int .i64 k2,.slice ra g.length rc] 27);have f1:=X0.cell 1 _ rfl;go_enter Tryz.func101,Tryz.ntmps101
   go_wp2_with fail
   go_ret
   exact ⟨rfl,B0⟩
def needK (h:List Ev) (v:Vd) (k:Nat):List Int:=((List.range k).filter fun n:Nat=>wantB h v (n:Int)).map Int.ofNat
theorem needK_next (h:List Ev) (v:Vd) (k:Nat):needK h v (k+1)=needK h v k++(cond (wantB h v (k:Int)) [(k:Int)] []):=by
 unfold needK;rw [List.range_succ,List.filter_append,List.map_append]
 congr 1
 cases hh:wantB h v (k:Int)<;>simp [hh]
theorem needK_len (h:List Ev) (v:Vd) (k:Nat):(needK h v k).length≤k:=by
 unfold needK;rw [List.length_map];exact Nat.le_trans (List.length_filter_le _ _) (by rw [List.length_range];exact Nat.le_refl _)
set_option maxHeartbeats 4000000 in
theorem rneeds_any (h:List Ev) (v:Vd) (vh vo vr:Value) (w:World) (hT:IsEvs w vh h) (hO:IsInts w vo v.2.2.1) (hR:IsEds w vr v.2.2.2.2) (hl:h.length≤100000) (hg:v.2.2.2.2.length≤100000) :
 Calls Tryz.prog 66 #[vh,.agg (vdC v vo vr)] w fun e w'=>InRow w ((needN h v).map Int.ofNat) e w':=by
 have HW:Hid (∀ (n:Int) W,Below w.heap.size w W→Calls Tryz.prog 101 #[vh,.agg (vdC v vo vr),.int .i64 n] W fun e w'=>e=.returned (.bool (wantB h v n))∧Below W.heap.size W w'):=fun n W hW=>rwanted_any h v n vh vo vr W (hT.below hW) (hO.below hW) (hR.below hW) hl hg
 have HNd:Hid ((needN h v).map Int.ofNat=needK h v h.length):=rfl;have HNx:=Lib.hid (needK_next h v);have HNl:=Lib.hid (needK_len h v);rw [HNd.out];obtain ⟨ha,hc,rfl,h1,h2,h3,_⟩:=hT.reads;obtain ⟨oa,oc,rfl,_⟩:=IsInts.reads hO;obtain ⟨ra,rc,rfl,_⟩:=IsEds.reads hR;obtain ⟨lv0,ac,o,⟨k0,k1,k2⟩,g⟩:=v;simp only at HW hg ⊢;obtain ⟨nh,hnh⟩:∃ x,h.length=x:=⟨_,rfl⟩;obtain ⟨no,hno⟩:∃ x,o.length=x:=⟨_,rfl⟩;obtain ⟨ng,hng⟩:∃ x,g.length=x:=⟨_,rfl⟩;simp only [hnh,hno,hng] at HW h1 h3 hl ⊢;generalize needK h (lv0,ac,o,(k0,k1,k2),g)=ND at HNx HNl ⊢;generalize wantB h (lv0,ac,o,(k0,k1,k2),g)=WB at HW HNx;clear hT hO hR hnh hno hng HNd;have HZ:Hid (ND 0=[]):=List.eq_nil_of_length_eq_zero (Nat.le_zero.1 (HNl.out 0))
 have S0:=WS.new w #[.int .i64 lv0,.bool ac,.slice oa no oc,.int .i64 k0,.int .i64 k1,.int .i64 k2,.slice ra ng rc];go_enter Tryz.func66,Tryz.ntmps66
 go_wp2_with fail
 go_loopw [5,6] (fun l iv wr=>∃ k:Nat,k≤nh∧iv=.int .i64 k∧WS w wr #[.int .i64 lv0,.bool ac,.slice oa no oc,.int .i64 k0,.int .i64 k1,.int .i64 k2,.slice ra ng rc] l (.slice none 0 0) (ND k) []) (fun _ iv _=>nh - (RowKit.intOf iv).toNat)
 case atStart=>exact ⟨0,Nat.zero_le _,rfl,by rw [HZ.out];exact S0⟩
 case round =>
  clear S0;obtain ⟨k,hk,rfl,S1⟩:=hrel
  by_cases hlt:k < nh
  ·have j0:(k:Int) < (nh:Int):=by omega
   have hn:=HNl.out k;have HE:=Lib.hid (HNx.out k);have f0:=S1.x.cell 0 _ rfl;have f1:=S1.x.cell 1 _ rfl;have f2:=S1.x.cell 2 _ rfl;have f3:=S1.x.cell 3 _ rfl;have f4:=S1.x.cell 4 _ rfl;have f5:=S1.x.cell 5 _ rfl;have f6:=S1.x.cell 6 _ rfl;go_wp2_with fail
   refine (HW.out _ _ S1.b).mono ?_;rintro e w2 ⟨rfl,b2⟩;have S2:=S1.below b2;clear S1 f0 f1 f2 f3 f4 f5 f6;generalize WB (k:Int)=q at HE;cases q with
   | false =>
     go_wp2_with fail
     refine ⟨⟨k+1,by omega,by first | go_num | simp,?_⟩,by simp [RowKit.intOf];omega⟩;rw [HE.out];simpa using S2
   | true =>
     go_wp2_with (at_builtin;refine wp_push14 rfl _ _ rfl S2 rfl [(k:Int)] 1 1 rfl rfl (by omega) ?_)
     intro l3 w3 S3 _;go_wp2_with fail
     refine ⟨⟨k+1,by omega,by first | go_num | simp,?_⟩,by simp [RowKit.intOf];omega⟩;rw [HE.out];exact S3
  ·obtain rfl:k=nh:=by omega
   have j0:¬ (k:Int) < (k:Int):=by omega
   go_wp2_with fail
   go_ret
   exact ⟨_,rfl,S1.b,S1.l⟩
theorem may_parts (c:Ct):mayC c↔¬ (c.1.length < 1∨16 < c.1.length∨c.2.1 < 1∨1048576 < c.2.1∨(c.2.2.1.length≠0∧c.2.2.1.length≠32)∨c.2.2.2.1.length≠32∨c.2.2.2.2.1 < 0∨256 < c.2.2.2.2.1) ∧
 ¬ (c.2.2.2.2.2.1.1 < 1∨2 < c.2.2.2.2.2.1.1∨32 < c.2.2.2.2.2.1.2.2.1.length∨c.2.2.2.2.2.1.2.2.2.1.1 < 0∨4 < c.2.2.2.2.2.1.2.2.2.1.1∨¬ (plM c.2.2.2.2.2.1.2.2.2.1.2.1∧plM c.2.2.2.2.2.1.2.2.2.1.2.2)∨128 < c.2.2.2.2.2.1.2.2.2.2.length∨256 < c.2.2.2.2.2.2.length) ∧
 (∀ n∈c.2.2.2.2.2.1.2.2.1,txM n)∧(∀ e∈c.2.2.2.2.2.1.2.2.2.2,edM e)∧∀ p∈c.2.2.2.2.2.2,pfM p:=by
 unfold mayC vdM plM
 constructor
 ·rintro ⟨⟨⟨a1,a2⟩,⟨a3,a4⟩,a5,a6,a7,a8⟩,⟨⟨⟨v1,v2⟩,v3,⟨v4,v5⟩,⟨⟨v6,v7⟩,v8,v9⟩,v10⟩,v11,v12⟩,p1,p2⟩
  exact ⟨by omega,by omega,v11,v12,p2⟩
 ·rintro ⟨h1,h2,h3,h4,h5⟩
  exact ⟨by omega,⟨by omega,h3,h4⟩,by omega,h5⟩
theorem rmay14_any (c:Ct) (vo vr vp:Value) (w:World) (hC:CtAt w c vo vr vp) :
 Calls Tryz.prog 36 #[.agg (ctC c vo vr vp)] w fun e w'=>e=.returned (.bool (decide (mayC c)))∧Below w.heap.size w w':=by
 have HMP:=may_parts c;obtain ⟨a,sq,p,d,ct,⟨lv,ac,o,⟨k0,k1,k2⟩,g⟩,q⟩:=c;obtain ⟨hO,hR,hP⟩:=hC;simp only at hO hR hP HMP ⊢;obtain ⟨oa,oc,rfl,_⟩:=hO.some_at;obtain ⟨ra,rc,rfl,_⟩:=hR.some_at;obtain ⟨pa,pc,rfl,_⟩:=hP.len
 by_cases f1:(a.length < 1∨16 < a.length∨sq < 1∨1048576 < sq∨(p.length≠0∧p.length≠32)∨d.length≠32∨ct < 0∨256 < ct)
 ·rw [decide_eq_false (fun hh=>(HMP.1 hh).1 f1)]
  exact rmay14_f1 a p d sq ct lv k0 k1 k2 ac o g q oa ra pa _ oc _ rc _ pc w f1
 ·by_cases f2:(lv < 1∨2 < lv∨32 < o.length∨k0 < 0∨4 < k0∨¬ (plM k1∧plM k2)∨128 < g.length∨256 < q.length)
  ·rw [decide_eq_false (fun hh=>(HMP.1 hh).2.1 f2)]
   exact rmay14_f2 a p d sq ct lv k0 k1 k2 ac o g q oa ra pa _ oc _ rc _ pc w (by omega) (by omega) (by omega) (by omega) (by omega) f2
  ·have f2':=f2
   unfold plM at f2';refine rmay14_rows a p d sq ct lv k0 k1 k2 ac o g q oa ra pa _ oc _ rc _ pc w (by omega) (by omega) (by omega) (by omega) (by omega) (by omega) (by omega) (by omega) (by unfold plM;omega) (by unfold plM;omega) (by omega) (by omega) _ rfl rfl rfl hO hR hP ?_ ?_ ?_ ?_
   ·intro x y z
    exact decide_eq_true (HMP.2 ⟨f1,f2,x,y,z⟩)
   ·intro n hn hx
    exact decide_eq_false (fun hh=>hx ((HMP.1 hh).2.2.1 n hn))
   ·intro n hn hx
    exact decide_eq_false (fun hh=>hx ((HMP.1 hh).2.2.2.1 n hn))
   ·intro n hn hx
    exact decide_eq_false (fun hh=>hx ((HMP.1 hh).2.2.2.2 n hn))
end Go.Proofs.YthamoeekiglphaaGreatDoor
namespace Go.Proofs.YthamoeekiglphaaGreatDoor
set_option maxRecDepth 100000
open Go.RowKit
set_option linter.unusedVariables false
theorem rsG_any (S:List UInt8) (hS:S.length≤9223372036854775000) (w:World) :
 Calls Tryz.prog 26 #[.string ⟨S.toArray⟩] w fun e w'=>e=.returned (.string ⟨(sumL S).toArray⟩)∧Below w.heap.size w w':=rsum_any S hS w
section
variable (sm:List UInt8→List UInt8)
theorem unL_mem (a b x y:List UInt8) (h:unL sm a b=some (x,y)):x=a∧y=b:=by
 unfold unL at h
 by_cases hc:a≠b∧sm a=sm b
 ·rw [if_pos hc] at h;cases h;exact ⟨rfl,rfl⟩
 ·rw [if_neg hc] at h;cases h
theorem getD_bound (x:List (List UInt8)) (B k:Nat) (h:∀ t∈x,t.length≤B):(x.getD k []).length≤B:=by
 rw [List.getD_eq_getElem?_getD];cases hx:x[k]? with
 | none=>simp
 | some t=>rw [Option.getD_some];exact h t (List.mem_of_getElem? hx)
theorem backL_bound (a b:List (List UInt8)) (B:Nat) (ha:∀ t∈a,t.length≤B) (hb:∀ t∈b,t.length≤B) (x y:List UInt8):∀ k,backL sm a b k=some (x,y)→x.length≤B∧y.length≤B
 | 0,h=>by cases h
 | k+1,h=>by
   rw [backL] at h
   by_cases hc:a.getD k []≠b.getD k []
   ·rw [if_pos hc] at h
    obtain ⟨rfl,rfl⟩:=unL_mem sm _ _ _ _ h;exact ⟨getD_bound a B k ha,getD_bound b B k hb⟩
   ·rw [if_neg hc] at h;exact backL_bound a b B ha hb x y k h
end
end Go.Proofs.YthamoeekiglphaaGreatDoor
namespace Go.Proofs.YthamoeekiglphaaGreatDoor
set_option maxRecDepth 100000
open Go.RowKit
set_option linter.unusedVariables false
def ClRes (w:World) (c:List (List UInt8) × Nat) (e:Ending) (w':World):Prop:=∃ r,e=.returned (.tuple #[r,.int .i64 (c.2:Int)])∧Below w.heap.size w w'∧w'.ownsRow w.heap.size 9 1 r c.1.length (strV c.1)
theorem rootI_len (n:Nat) (c:List UInt8) (hc:c.length≤32):(rootI n c).length≤50:=by
 unfold rootI;have:=Lm.numL_length n;have:=Lm.cnt_le n;rw [List.length_cons,List.length_append];omega
def unV:Option (List UInt8 × List UInt8)→Value
 | some (x,y)=>.tuple #[.string ⟨x.toArray⟩,.string ⟨y.toArray⟩,.bool true]
 | none=>.tuple #[.string ⟨#[]⟩,.string ⟨#[]⟩,.bool false]
theorem climb_rows (sm:List UInt8→List UInt8) (h32:∀ s,(sm s).length=32) (n i:Int) (s:List UInt8) (p:List (List UInt8)) (h:(climbL sm n i s p).2=0):(climbL sm n i s p).1.length≤4097∧0 < (climbL sm n i s p).1.length∧∀ t∈(climbL sm n i s p).1,t.length≤s.length+65:=by
 obtain ⟨hA,hp,l,hl,hc⟩:=climb_ok sm n i s p h;obtain ⟨f1,f2,f3⟩:=inL_facts sm h32 n.toNat n.toNat i.toNat s p l rfl (by omega) hp hl;rw [hc];refine ⟨by rw [List.length_append];simp only [List.length_cons,List.length_nil];omega,by simp,fun t ht=>?_⟩;rcases List.mem_append.1 ht with h | h
 ·exact f3 t h
 ·rw [List.mem_singleton] at h;rw [h]
  have:=rootI_len n.toNat (sm (l.getLastD [])) (by rw [h32];omega);omega
theorem unL_eq (sm:List UInt8→List UInt8) (a:List UInt8):unL sm a a=none:=by unfold unL;rw [if_neg (fun h=>h.1 rfl)]
theorem unL_ne (sm:List UInt8→List UInt8) (a b:List UInt8) (h:sm a≠sm b):unL sm a b=none:=by unfold unL;rw [if_neg (fun h'=>h h'.2)]
end Go.Proofs.YthamoeekiglphaaGreatDoor
