/-
  What cartoucheref03.Top, Crown and Root answer.
-/
import Derived.Test.YthamoeekiglphaaGreatDoorEL1a
namespace Go.Proofs.YthamoeekiglphaaGreatDoor
set_option maxRecDepth 100000
open Go.RowKit
set_option linter.unusedVariables false
attribute [local go_sem] ba_size
theorem topL_len (sm:List UInt8→List UInt8) (h32:∀ s,(sm s).length=32) (l:List (List UInt8)) (hl:∀ s∈l,s.length≤1125899906842624):(topL sm l).length≤1125899906842625:=by
 by_cases h:2≤l.length
 ·rw [topL_more sm l h];unfold nodeI;simp [h32]
 ·match l,h with
  | [],_=>rw [topL];simp [leafI]
  | [s],_=>rw [topL_one];have:=hl s (by simp);simp [leafI];omega
  | _::_::_,h=>exact absurd (by simp) h
set_option maxHeartbeats 1000000 in
theorem rtop_any:∀ (m:Nat) (ss:List (List UInt8)) (v:Value) (w:World),ss.length=m→0 < m→IsTxt w v ss →
 Calls Tryz.prog 54 #[v] w fun e w'=>e=.returned (.string ⟨(topL sumL ss).toArray⟩)∧Below w.heap.size w w':=by
 intro m
 induction m using Nat.strongRecOn with
 | _ m ih =>
   intro ss v w hm h0 hT;have hbd:=hT.bound;obtain ⟨b,off,cap,rfl,hblt,hc1,hc2,hn,HC⟩:=hT.at (by omega)
   by_cases h1:ss.length=1
   ·match ss,h1 with
    | [s],_ =>
      have c0:w.cell? ⟨b,off,none⟩=some (.string ⟨s.toArray⟩):=HC.out 0 (by simp);have hs:=hbd s (by simp);rw [topL_one];clear ih hT HC hbd;go_enter Tryz.func54,Tryz.ntmps54
      go_wp2_with fail
      refine (rleafIn_any s hs _).mono ?_;rintro e w1 ⟨rfl,hb1⟩;go_wp2_with fail
      go_ret
      exact ⟨rfl,hb1⟩
   ·have hlt:=hf_lt ss.length (by omega)
    have hps:=hf_pos ss.length;have hl1:(ss.take (hf ss.length)).length=hf ss.length:=by rw [List.length_take];omega
    have hl2:(ss.drop (hf ss.length)).length=ss.length - hf ss.length:=List.length_drop;have ht1:=topL_len sumL sumL_len (ss.take (hf ss.length)) (fun s hs=>hbd s (List.mem_of_mem_take hs));have ht2:=topL_len sumL sumL_len (ss.drop (hf ss.length)) (fun s hs=>hbd s (List.mem_of_mem_drop hs));have T1:=hT.take (hf ss.length) (by omega) (by omega);have T2:=hT.drop (hf ss.length) (by omega) (by omega);have I1:=fun w1 h=>ih (hf ss.length) (by omega) (ss.take (hf ss.length)) (.slice (some ⟨b,off,none⟩) (hf ss.length) cap) w1 hl1 (by omega) h
    have I2:=fun w1 h=>ih (ss.length - hf ss.length) (by omega) (ss.drop (hf ss.length)) (.slice (some ⟨b,off+hf ss.length,none⟩) (ss.length - hf ss.length) (cap - hf ss.length)) w1 hl2 (by omega) h
    have hH:=fun w1=>rhalf_any ss.length (by omega) w1
    have HE:Hid (topL sumL ss=nodeI (sumL (topL sumL (ss.take (hf ss.length)))) (sumL (topL sumL (ss.drop (hf ss.length))))):=topL_more sumL ss (by omega);obtain ⟨k,hk⟩:∃ k,hf ss.length=k:=⟨_,rfl⟩;rw [hk] at hlt hps T1 T2 I1 I2 hH HE ht1 ht2;obtain ⟨A,hA⟩:∃ A,topL sumL (ss.take k)=A:=⟨_,rfl⟩;obtain ⟨B,hB⟩:∃ B,topL sumL (ss.drop k)=B:=⟨_,rfl⟩;rw [hA,hB] at HE;rw [hA] at I1 ht1;rw [hB] at I2 ht2;have S1:=fun w1=>rsumL_any A (by omega) w1
    have S2:=fun w1=>rsumL_any B (by omega) w1
    have l1:=sumL_len A;have l2:=sumL_len B;obtain ⟨x,hx⟩:∃ x,sumL A=x:=⟨_,rfl⟩;obtain ⟨y,hy⟩:∃ y,sumL B=y:=⟨_,rfl⟩;rw [hx] at S1 l1 HE;rw [hy] at S2 l2 HE;have hN:=fun w1=>rnodeIn_any x y (by omega) (by omega) w1
    obtain ⟨n,hnn⟩:∃ n,ss.length=n:=⟨_,rfl⟩;simp only [hnn] at hlt h1 hc1 hn hH T1 T2 I1 I2 ⊢;clear hA hB hx hy hk ih hT HC hbd hl1 hl2 hnn hm ht1 ht2;have i1:((n:Int)==1)=false:=by simp;omega
    have i2:(k:Int)≤(cap:Int):=by omega
    have i3:(k:Int)≤(n:Int):=by omega
    have i4:¬ cap=k:=by omega
    go_enter Tryz.func54,Tryz.ntmps54
    go_wp2_with fail
    refine (hH w).mono ?_;rintro e w1 ⟨rfl,hb1⟩;go_wp2_with fail
    refine wp_region_any (by kernel_rfl) ?_;change wpAny _ _ _ _ _ _ _ (World.drew _);refine wpAny_take (i:=0) (v:=.slice (some ⟨b,off,none⟩) n cap) rfl (by kernel_rfl) (by kernel_rfl) (by kernel_rfl) (fun _ _ _ h=>h) (Or.inl ⟨by rfl,fun w=>by go_simp⟩) ?_;refine wpAny_take (i:=1) (v:=.int .i64 k) rfl (by kernel_rfl) (by kernel_rfl) (by kernel_rfl) (fun _ _ _ h=>h) (Or.inl ⟨by rfl,fun w=>by go_simp⟩) ?_;refine wpAny_take (i:=2) (v:=.slice (some ⟨b,off,none⟩) k cap) rfl (by kernel_rfl) (by kernel_rfl) (by kernel_rfl) (fun _ _ _ h=>h) (Or.inl ⟨by rfl,fun w=>by go_simp⟩) ?_;refine wpAny_take (i:=5) (v:=.slice (some ⟨b,off,none⟩) n cap) rfl (by kernel_rfl) (by kernel_rfl) (by kernel_rfl) (fun _ _ _ h=>h) (Or.inl ⟨by rfl,fun w=>by go_simp⟩) ?_
    refine wpAny_take (i:=6) (v:=.int .i64 k) rfl (by kernel_rfl) (by kernel_rfl) (by kernel_rfl) (fun _ _ _ h=>h) (Or.inl ⟨by rfl,fun w=>by go_simp⟩) ?_;refine wpAny_take (i:=7) (v:=.slice (some ⟨b,off+k,none⟩) (n - k) (cap - k)) rfl (by kernel_rfl) (by kernel_rfl) (by kernel_rfl) (fun _ _ _ h=>h) (Or.inl ⟨by rfl,fun w=>by go_simp⟩) ?_;refine any_seqI [3,4,8,9,10,11] [_,_,_,_,_,_] _ _ _ rfl (by kernel_rfl) ?_;have hbd1:Below w.heap.size w w1.drew:=hb1.drew;go_wp2_with fail
    refine (I1 _ (T1.below hbd1)).mono ?_;rintro e w2 ⟨rfl,hb2⟩;have hbw2:=bel_trans hbd1 hb2;go_wp2_with fail
    refine (S1 w2).mono ?_;rintro e w3 ⟨rfl,hb3⟩;have hbw3:=bel_trans hbw2 hb3;go_wp2_with fail
    refine (I2 _ (T2.below hbw3)).mono ?_;rintro e w4 ⟨rfl,hb4⟩;have hbw4:=bel_trans hbw3 hb4;go_wp2_with fail
    refine (S2 w4).mono ?_;rintro e w5 ⟨rfl,hb5⟩;have hbw5:=bel_trans hbw4 hb5;go_wp2_with fail
    refine (hN w5).mono ?_;rintro e w6 ⟨rfl,hb6⟩;go_wp2_with fail
    go_ret
    exact ⟨by rw [HE.out];rfl,bel_trans hbw5 hb6⟩
set_option maxHeartbeats 400000 in
theorem rcrown_any (ss:List (List UInt8)) (v:Value) (w:World) (hT:IsTxt w v ss) :
 Calls Tryz.prog 23 #[v] w fun e w'=>e=.returned (.string ⟨(crownL sumL ss).toArray⟩)∧Below w.heap.size w w':=by
 by_cases h0:ss.length=0
 ·have HE:Hid (crownL sumL ss=[]):=by show crownL sumL ss=[];unfold crownL;rw [if_pos h0]
  obtain ⟨a,cap,rfl,_⟩:=hT.len;rw [h0];clear hT;go_enter Tryz.func23,Tryz.ntmps23
  go_wp2_with fail
  go_ret
  exact ⟨by rw [HE.out];rfl,Below.refl _ _⟩
 ·have HE:Hid (crownL sumL ss=sumL (topL sumL ss)):=by show crownL sumL ss=_;unfold crownL;rw [if_neg h0]
  have ht:=topL_len sumL sumL_len ss hT.bound;have hA:=fun w1 h=>rtop_any ss.length ss v w1 rfl (by omega) h
  obtain ⟨A,eA⟩:∃ A,topL sumL ss=A:=⟨_,rfl⟩;rw [eA] at HE ht hA;have hS:=fun w1=>rsumL_any A (by omega) w1
  have hT':=hT;obtain ⟨a,cap,rfl,h1,h2,h3⟩:=hT.len;have i0:((ss.length:Int)==0)=false:=by rw [beq_eq_false_iff_ne];omega
  have hA':=hA w hT';clear eA hT hT' hA;obtain ⟨n,hn⟩:∃ n,ss.length=n:=⟨_,rfl⟩;simp only [hn] at *;clear hn;go_enter Tryz.func23,Tryz.ntmps23
  go_wp2_with fail
  refine hA'.mono ?_;rintro e w1 ⟨rfl,hb1⟩;go_wp2_with fail
  refine (hS w1).mono ?_;rintro e w2 ⟨rfl,hb2⟩;go_wp2_with fail
  go_ret
  exact ⟨by rw [HE.out];rfl,bel_trans hb1 hb2⟩
theorem crownL_le (sm:List UInt8→List UInt8) (h32:∀ s,(sm s).length=32) (l:List (List UInt8)):(crownL sm l).length≤32:=by
 unfold crownL
 by_cases h:l.length=0
 ·rw [if_pos h];simp
 ·rw [if_neg h,h32];omega
set_option maxHeartbeats 400000 in
theorem rroot_any (ss:List (List UInt8)) (v:Value) (w:World) (hT:IsTxt w v ss) (hb:ss.length≤4096) :
 Calls Tryz.prog 21 #[v] w fun e w'=>e=.returned (.tuple #[.string ⟨(rootL sumL ss).toArray⟩,.int .i64 0])∧Below w.heap.size w w':=by
 have hC:=rcrown_any ss v w hT;have lc:=crownL_le sumL sumL_len ss;have HE:Hid (rootL sumL ss=sumL (rootI ss.length (crownL sumL ss))):=(rfl:_=_);obtain ⟨a,cap,rfl,h1,h2,h3⟩:=hT.len;obtain ⟨c,hc⟩:∃ c,crownL sumL ss=c:=⟨_,rfl⟩;rw [hc] at hC lc HE;have hR:=fun w1=>rrootIn_any ss.length (by omega) c lc w1
 have hl:(rootI ss.length c).length≤50:=by
  unfold rootI;have:=Lm.numL_length ss.length;have:=Lm.cnt_le ss.length;simp;omega
 obtain ⟨R,hRR⟩:∃ R,rootI ss.length c=R:=⟨_,rfl⟩;rw [hRR] at hR hl HE;have hS:=fun w1=>rsumL_any R (by omega) w1
 have i0:¬ (4096:Int) < (ss.length:Int):=by omega
 clear hRR hc hT;obtain ⟨n,hn⟩:∃ n,ss.length=n:=⟨_,rfl⟩;simp only [hn] at *;clear hn;go_enter Tryz.func21,Tryz.ntmps21
 go_wp2_with fail
 refine hC.mono ?_;rintro e w1 ⟨rfl,hb1⟩;go_wp2_with fail
 refine (hR w1).mono ?_;rintro e w2 ⟨rfl,hb2⟩;go_wp2_with fail
 refine (hS w2).mono ?_;rintro e w3 ⟨rfl,hb3⟩;go_wp2_with fail
 go_ret2
 exact ⟨by rw [HE.out];rfl,bel_trans (bel_trans hb1 hb2) hb3⟩
end Go.Proofs.YthamoeekiglphaaGreatDoor
