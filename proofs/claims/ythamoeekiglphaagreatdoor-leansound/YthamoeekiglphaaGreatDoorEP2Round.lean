/-
  What the closure of blake.Block, a round, does.
-/
import Derived.Test.YthamoeekiglphaaGreatDoorEL0c
namespace Go.Proofs.YthamoeekiglphaaGreatDoor
set_option maxRecDepth 100000
open Go.RowKit
set_option linter.unusedVariables false
attribute [local go_sem] wv_get wv_getE wv_set wv_size
set_option maxRecDepth 100000 in
set_option maxHeartbeats 1000000 in
theorem round_any (o:Nat) (ho:o < 18446744073709551616) (M V:List Int) (hM:M.length=16) (hV:V.length=16) (gm gv:Nat) (hne:gm≠gv) (w:World) (hG:G w) (h3:3≤gv) (hm:Row w gm 162 M) (hv:Row w gv 162 V) :
 Calls Tryz.prog 144 #[.int .u64 o,.pointer (some ⟨gm,0,none⟩),.pointer (some ⟨gv,0,none⟩)] w fun e w'=>e=.returned (.tuple #[])∧Row w' gv 162 (rk M V (fg o) 8)∧(∀ g,g≠gv→w'.heap[g]?=w.heap[g]?)∧w'.heap.size=w.heap.size∧Below gv w w':=by
 go_enter Tryz.func144,Tryz.ntmps144
 go_wp2
 go_loopw [11] (fun i wr=>∃ k:Nat,k≤8∧i=.int .i64 k∧Hid (Row wr gv 162 (rk M V (fg o) k))∧Hid (∀ g,g≠gv→wr.heap[g]?=w.heap[g]?)∧Hid (wr.heap.size=w.heap.size)∧Below gv w wr) (fun i _=>8 - (RowKit.intOf i).toNat)
 case atStart=>exact ⟨0,by omega,rfl,hv,fun _ _=>rfl,rfl,Below.refl _ _⟩
 case round =>
  obtain ⟨k,hk,rfl,HR,HO,HS,hbw⟩:=hrel
  by_cases hlt:k < 8
  ·have hGr:G wr:=hG.below hbw h3
   have hMr:Row wr gm 162 M:=(HO.out gm hne).trans hm;have m0:wr.cell? ⟨1,k*4,none⟩=some (.int .i64 (qa k 0)):=by have:=hGr.mix k 0 hlt (by omega);rwa [Nat.mul_comm 4 k] at this
   have m1:wr.cell? ⟨1,k*4+1,none⟩=some (.int .i64 (qa k 1)):=by have:=hGr.mix k 1 hlt (by omega);rwa [Nat.mul_comm 4 k] at this
   have m2:wr.cell? ⟨1,k*4+2,none⟩=some (.int .i64 (qa k 2)):=by have:=hGr.mix k 2 hlt (by omega);rwa [Nat.mul_comm 4 k] at this
   have m3:wr.cell? ⟨1,k*4+3,none⟩=some (.int .i64 (qa k 3)):=by have:=hGr.mix k 3 hlt (by omega);rwa [Nat.mul_comm 4 k] at this
   have i0:(k:Int) < 8:=by omega
   have x0:IntKind.i64.wrap (2*(k:Int))=2*(k:Int):=by rw [IntKind.wrap_i64];omega
   have x1:IntKind.i64.wrap (2*(k:Int)+1)=2*(k:Int)+1:=by rw [IntKind.wrap_i64];omega
   have figE:∀ w,Calls Tryz.prog 145 #[.int .u64 o,.int .i64 (2*(k:Int))] w fun e w'=>e=.returned (.int .i64 (fg o (2*k)))∧w'=w:=fun w=>by
    have h:=figure_of o (2*k) ho (by omega) w
    rwa [show ((2*k:Nat):Int)=2*(k:Int) by omega] at h
   have figO:∀ w,Calls Tryz.prog 145 #[.int .u64 o,.int .i64 (2*(k:Int)+1)] w fun e w'=>e=.returned (.int .i64 (fg o (2*k+1)))∧w'=w:=fun w=>by
    have h:=figure_of o (2*k+1) ho (by omega) w
    rwa [show ((2*k+1:Nat):Int)=2*(k:Int)+1 by omega] at h
   obtain ⟨s0,hs0⟩:∃ s0,fg o (2*k)=s0:=⟨_,rfl⟩;obtain ⟨s1,hs1⟩:∃ s1,fg o (2*k+1)=s1:=⟨_,rfl⟩;rw [hs0] at figE;rw [hs1] at figO;have f0:s0 < 16:=by rw [← hs0];exact Nat.mod_lt _ (by decide)
   have f1:s1 < 16:=by rw [← hs1];exact Nat.mod_lt _ (by decide)
   have f0i:(s0:Int) < 16:=by omega
   have f1i:(s1:Int) < 16:=by omega
   have y0:wr.cell? ⟨gm,s0,none⟩=some (.int .u32 (at_ M s0)):=by rw [hMr.cell _ (by omega),at_eq]
   have y1:wr.cell? ⟨gm,s1,none⟩=some (.int .u32 (at_ M s1)):=by rw [hMr.cell _ (by omega),at_eq]
   obtain ⟨a,ha⟩:∃ a,qa k 0=a:=⟨_,rfl⟩;obtain ⟨b,hb⟩:∃ b,qa k 1=b:=⟨_,rfl⟩;obtain ⟨c,hc⟩:∃ c,qa k 2=c:=⟨_,rfl⟩;obtain ⟨d,hd⟩:∃ d,qa k 3=d:=⟨_,rfl⟩;have la:=qa_lt k 0 hlt (by omega);have lb:=qa_lt k 1 hlt (by omega);have lc:=qa_lt k 2 hlt (by omega);have ld:=qa_lt k 3 hlt (by omega);obtain ⟨nab,nac,nad,nbc,nbd,ncd⟩:=qa_ne k hlt;rw [ha] at m0 la nab nac nad;rw [hb] at m1 lb nab nbc nbd;rw [hc] at m2 lc nac nbc ncd;rw [hd] at m3 ld nad nbd ncd;obtain ⟨U,hU⟩:∃ U,rk M V (fg o) k=U:=⟨_,rfl⟩;have lU:U.length=16:=by rw [← hU];exact rk_len M V _ hV k
   have HRU:Row wr gv 162 U:=by rw [← hU];exact HR.out
   have va:wr.cell? ⟨gv,a,none⟩=some (.int .u32 (at_ U a)):=by rw [HRU.cell _ (by omega),at_eq]
   have vb:wr.cell? ⟨gv,b,none⟩=some (.int .u32 (at_ U b)):=by rw [HRU.cell _ (by omega),at_eq]
   have vc:wr.cell? ⟨gv,c,none⟩=some (.int .u32 (at_ U c)):=by rw [HRU.cell _ (by omega),at_eq]
   have vd:wr.cell? ⟨gv,d,none⟩=some (.int .u32 (at_ U d)):=by rw [HRU.cell _ (by omega),at_eq]
   have fa:=HRU.frozen a;have fb:=HRU.frozen b;have fc:=HRU.frozen c;have fd:=HRU.frozen d;have ia:(a:Int) < 16:=by omega
   have ib:(b:Int) < 16:=by omega
   have ic:(c:Int) < 16:=by omega
   have id':(d:Int) < 16:=by omega
   go_wp2
   refine region_tail 19 (by kernel_rfl) (by kernel_rfl) ?_;simp only [List.take_succ_cons,List.take_zero,List.drop_succ_cons,List.drop_zero]
   repeat still_step
   refine wpStill_nil ?_;go_wp2
   refine region_tail 14 (by kernel_rfl) (by kernel_rfl) ?_;simp only [List.take_succ_cons,List.take_zero,List.drop_succ_cons,List.drop_zero]
   repeat still_step
   still_call (figE _)
   repeat still_step
   still_call (figO _)
   repeat still_step
   refine wpStill_nil ?_;go_wp2
   refine wp_region_any (by kernel_rfl) ?_;change wpAny _ _ _ _ _ _ _ (World.drew _);refine wpAny_take (i:=0) (v:=.int .i64 a) rfl (by kernel_rfl) (by kernel_rfl) (by kernel_rfl) (fun _ _ _ h=>h) (Or.inl ⟨by rfl,fun w=>by go_simp⟩) ?_;refine wpAny_take (i:=1) (v:=.int .i64 b) rfl (by kernel_rfl) (by kernel_rfl) (by kernel_rfl) (fun _ _ _ h=>h) (Or.inl ⟨by rfl,fun w=>by go_simp⟩) ?_;refine wpAny_take (i:=2) (v:=.int .i64 c) rfl (by kernel_rfl) (by kernel_rfl) (by kernel_rfl) (fun _ _ _ h=>h) (Or.inl ⟨by rfl,fun w=>by go_simp⟩) ?_;refine wpAny_take (i:=3) (v:=.int .i64 d) rfl (by kernel_rfl) (by kernel_rfl) (by kernel_rfl) (fun _ _ _ h=>h) (Or.inl ⟨by rfl,fun w=>by go_simp⟩) ?_;refine any_head 4 19 12 (by kernel_rfl) ?_
   simp only [List.drop_succ_cons,List.drop_zero,List.take_succ_cons,List.take_zero,Nat.reduceSub]
   repeat still_step
   still_call (mix_a _ _ _ _ _ _)
   repeat still_step
   refine wpStill_nil ?_;refine wpAny_take (i:=19) (v:=.int .u32 (hA (at_ U a) (at_ U b) (at_ M s0))) rfl (by kernel_rfl) (by kernel_rfl) (by kernel_rfl) (fun _ _ _ h=>h) (Or.inl ⟨by rfl,fun w=>by go_simp⟩) ?_;refine wpAny_take (i:=20) (v:=.int .u32 (hB 65536 65536 4096 1048576 (at_ U a) (at_ U b) (at_ U c) (at_ U d) (at_ M s0))) rfl (by kernel_rfl) (by kernel_rfl) (by kernel_rfl) (fun _ _ _ h=>h) (Or.inl ⟨by rfl,fun w=>by go_simp⟩) ?_;refine wpAny_take (i:=21) (v:=.int .u32 (hC 65536 65536 (at_ U a) (at_ U b) (at_ U c) (at_ U d) (at_ M s0))) rfl (by kernel_rfl) (by kernel_rfl) (by kernel_rfl) (fun _ _ _ h=>h) (Or.inl ⟨by rfl,fun w=>by go_simp⟩) ?_;refine wpAny_take (i:=22) (v:=.int .u32 (hD 65536 65536 (at_ U a) (at_ U b) (at_ U d) (at_ M s0))) rfl (by kernel_rfl) (by kernel_rfl) (by kernel_rfl) (fun _ _ _ h=>h) (Or.inl ⟨by rfl,fun w=>by go_simp⟩) ?_
   refine any_seqI [23,24,25,26,27,28,29,30] [_,_,_,_,_,_,_,_] _ _ _ rfl (by kernel_rfl) ?_;go_wp2
   obtain ⟨w2,hw2⟩:∃ w2,(put4 wr gv a b c d (hA (at_ U a) (at_ U b) (at_ M s0)) (hB 65536 65536 4096 1048576 (at_ U a) (at_ U b) (at_ U c) (at_ U d) (at_ M s0)) (hC 65536 65536 (at_ U a) (at_ U b) (at_ U c) (at_ U d) (at_ M s0)) (hD 65536 65536 (at_ U a) (at_ U b) (at_ U d) (at_ M s0))).drew.drew.drew=w2:=⟨_,rfl⟩;obtain ⟨X,hX⟩:∃ X,half 65536 65536 4096 1048576 U a b c d (at_ M s0)=X:=⟨_,rfl⟩;have lX:X.length=16:=by rw [← hX];exact half_len _ _ _ _ _ _ _ _ _ _ lU
   have HRX:Row w2 gv 162 X:=by
    rw [← hw2,← hX,half_eq _ _ _ _ _ _ _ _ _ _ lU la lb lc ld nab nac nad nbc nbd ncd];exact put4_row HRU a b c d _ _ _ _
   have HO2:Hid (∀ g,g≠gv→w2.heap[g]?=w.heap[g]?):=fun g hg=>by
    rw [← hw2];exact (put4_other _ _ _ _ _ _ _ _ _ _ g hg).trans (HO.out g hg)
   have HS2:Hid (w2.heap.size=w.heap.size):=by
    show _=_;rw [← hw2];exact (put4_size _ _ _ _ _ _ _ _ _ _).trans HS.out
   have hb2:Below gv w w2:=by rw [← hw2];exact (((put4_bel hbw _ _ _ _ _ _ _ _ _ (Nat.le_refl _)).drew).drew).drew
   unfold put4 at hw2;rw [hw2];clear hw2 m0 m1 m2 m3 va vb vc vd fa fb fc fd y0 y1;have va:w2.cell? ⟨gv,a,none⟩=some (.int .u32 (at_ X a)):=by rw [HRX.cell _ (by omega),at_eq]
   have vb:w2.cell? ⟨gv,b,none⟩=some (.int .u32 (at_ X b)):=by rw [HRX.cell _ (by omega),at_eq]
   have vc:w2.cell? ⟨gv,c,none⟩=some (.int .u32 (at_ X c)):=by rw [HRX.cell _ (by omega),at_eq]
   have vd:w2.cell? ⟨gv,d,none⟩=some (.int .u32 (at_ X d)):=by rw [HRX.cell _ (by omega),at_eq]
   have fa:=HRX.frozen a;have fb:=HRX.frozen b;have fc:=HRX.frozen c;have fd:=HRX.frozen d;refine wp_region_any (by kernel_rfl) ?_;change wpAny _ _ _ _ _ _ _ (World.drew _);refine wpAny_take (i:=0) (v:=.int .i64 a) rfl (by kernel_rfl) (by kernel_rfl) (by kernel_rfl) (fun _ _ _ h=>h) (Or.inl ⟨by rfl,fun w=>by go_simp⟩) ?_;refine wpAny_take (i:=1) (v:=.int .i64 b) rfl (by kernel_rfl) (by kernel_rfl) (by kernel_rfl) (fun _ _ _ h=>h) (Or.inl ⟨by rfl,fun w=>by go_simp⟩) ?_;refine wpAny_take (i:=2) (v:=.int .i64 c) rfl (by kernel_rfl) (by kernel_rfl) (by kernel_rfl) (fun _ _ _ h=>h) (Or.inl ⟨by rfl,fun w=>by go_simp⟩) ?_;refine wpAny_take (i:=3) (v:=.int .i64 d) rfl (by kernel_rfl) (by kernel_rfl) (by kernel_rfl) (fun _ _ _ h=>h) (Or.inl ⟨by rfl,fun w=>by go_simp⟩) ?_
   refine any_head 4 19 12 (by kernel_rfl) ?_;simp only [List.drop_succ_cons,List.drop_zero,List.take_succ_cons,List.take_zero,Nat.reduceSub]
   repeat still_step
   still_call (mix_b _ _ _ _ _ _)
   repeat still_step
   refine wpStill_nil ?_;refine wpAny_take (i:=19) (v:=.int .u32 (hA (at_ X a) (at_ X b) (at_ M s1))) rfl (by kernel_rfl) (by kernel_rfl) (by kernel_rfl) (fun _ _ _ h=>h) (Or.inl ⟨by rfl,fun w=>by go_simp⟩) ?_;refine wpAny_take (i:=20) (v:=.int .u32 (hB 256 16777216 128 33554432 (at_ X a) (at_ X b) (at_ X c) (at_ X d) (at_ M s1))) rfl (by kernel_rfl) (by kernel_rfl) (by kernel_rfl) (fun _ _ _ h=>h) (Or.inl ⟨by rfl,fun w=>by go_simp⟩) ?_;refine wpAny_take (i:=21) (v:=.int .u32 (hC 256 16777216 (at_ X a) (at_ X b) (at_ X c) (at_ X d) (at_ M s1))) rfl (by kernel_rfl) (by kernel_rfl) (by kernel_rfl) (fun _ _ _ h=>h) (Or.inl ⟨by rfl,fun w=>by go_simp⟩) ?_;refine wpAny_take (i:=22) (v:=.int .u32 (hD 256 16777216 (at_ X a) (at_ X b) (at_ X d) (at_ M s1))) rfl (by kernel_rfl) (by kernel_rfl) (by kernel_rfl) (fun _ _ _ h=>h) (Or.inl ⟨by rfl,fun w=>by go_simp⟩) ?_
   refine any_seqI [23,24,25,26,27,28,29,30] [_,_,_,_,_,_,_,_] _ _ _ rfl (by kernel_rfl) ?_;go_wp2
   go_roundw
   case rel =>
    refine ⟨k+1,by omega,by go_num,?_,?_,?_,?_⟩
    ·show Row (put4 w2 gv a b c d (hA (at_ X a) (at_ X b) (at_ M s1)) (hB 256 16777216 128 33554432 (at_ X a) (at_ X b) (at_ X c) (at_ X d) (at_ M s1)) (hC 256 16777216 (at_ X a) (at_ X b) (at_ X c) (at_ X d) (at_ M s1)) (hD 256 16777216 (at_ X a) (at_ X b) (at_ X d) (at_ M s1))).drew gv 162 (rk M V (fg o) (k+1))
     unfold rk;rw [ha,hb,hc,hd,hU,hs0,hs1,mixL_half,hX,half_eq _ _ _ _ _ _ _ _ _ _ lX la lb lc ld nab nac nad nbc nbd ncd];exact put4_row HRX a b c d _ _ _ _
    ·intro g hg
     exact (put4_other w2 gv a b c d (hA (at_ X a) (at_ X b) (at_ M s1)) (hB 256 16777216 128 33554432 (at_ X a) (at_ X b) (at_ X c) (at_ X d) (at_ M s1)) (hC 256 16777216 (at_ X a) (at_ X b) (at_ X c) (at_ X d) (at_ M s1)) (hD 256 16777216 (at_ X a) (at_ X b) (at_ X d) (at_ M s1)) g hg).trans (HO2.out g hg)
    ·exact (put4_size w2 gv a b c d (hA (at_ X a) (at_ X b) (at_ M s1)) (hB 256 16777216 128 33554432 (at_ X a) (at_ X b) (at_ X c) (at_ X d) (at_ M s1)) (hC 256 16777216 (at_ X a) (at_ X b) (at_ X c) (at_ X d) (at_ M s1)) (hD 256 16777216 (at_ X a) (at_ X b) (at_ X d) (at_ M s1))).trans HS2.out
    ·exact (put4_bel hb2 gv a b c d (hA (at_ X a) (at_ X b) (at_ M s1)) (hB 256 16777216 128 33554432 (at_ X a) (at_ X b) (at_ X c) (at_ X d) (at_ M s1)) (hC 256 16777216 (at_ X a) (at_ X b) (at_ X c) (at_ X d) (at_ M s1)) (hD 256 16777216 (at_ X a) (at_ X b) (at_ X d) (at_ M s1)) (Nat.le_refl _)).drew
   case measure=>simp [RowKit.intOf];omega
  ·obtain rfl:k=8:=by omega
   go_wp2
   go_end0
   exact ⟨rfl,HR.out,HO.out,HS.out,hbw⟩
end Go.Proofs.YthamoeekiglphaaGreatDoor
