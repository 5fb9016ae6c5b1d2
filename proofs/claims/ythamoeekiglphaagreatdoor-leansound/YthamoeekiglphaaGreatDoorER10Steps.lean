/-
  What cartoucheref10.Steps answers.
-/
import Derived.Test.YthamoeekiglphaaGreatDoorEL0b
import Derived.Maps.AppendAt
import Derived.Lib.Hide
import Derived.Deep.QuietTactic
namespace Go.Proofs.YthamoeekiglphaaGreatDoor
set_option maxRecDepth 100000
open Go.RowKit
set_option linter.unusedVariables false
set_option linter.unusedSimpArgs false
attribute [local go_sem] ba_size
set_option maxHeartbeats 4000000 in
theorem rsteps_o (level:Int) (hl1:level≠1) (hl2:level≠2) (l:List Ed) (v:Value) (w:World) (hT:IsEds w v l) (hle:l.length≤1000) :
 Calls Tryz.prog 62 #[.int .i64 level,v] w fun e w'=>StRow 113 w (stepsL level l) e w':=by
 obtain ⟨i0,hi,hz0,hz1,hz2⟩:=info_parts st_info;obtain ⟨a,cap,rfl,h1,h2,h3,HC⟩:=hT.reads;obtain ⟨n,hn⟩:∃ n,l.length=n:=⟨_,rfl⟩;have HN:Hid (l.length=n):=hn;rw [hn] at h1 h3 hle ⊢;clear hT hn;have y1:(level==1)=false:=beq_eq_false_iff_ne.2 hl1;have y2:(level==2)=false:=beq_eq_false_iff_ne.2 hl2;go_enter Tryz.func62,Tryz.ntmps62
 go_wp2_with fail
 go_loopw [5,6] (fun r i wr=>∃ (k c:Nat) (L':List SVt),k≤n∧c≤k*1001∧i=.int .i64 k∧Hid (L'.length=c)∧Hid (StB wr L' (sTo level l k))∧Below w.heap.size w wr∧wr.ownsRow w.heap.size 113 3 r c (recV stV L')) (fun _ i _=>n - (RowKit.intOf i).toNat)
 case atStart=>exact ⟨0,0,[],Nat.zero_le _,Nat.zero_le _,rfl,rfl,StB.nil _,Below.refl _ _,World.ownsRow_nil _ _ _ _⟩
 case round =>
  obtain ⟨k,c,L',hk,hc,rfl,HL,HS,hbw,hrow⟩:=hrel
  by_cases hlt:k < n
  ·have hk1:Hid (k < l.length):=by show k < _;rw [HN.out];exact hlt
   have jk:(k:Int) < (n:Int):=by omega
   have jk2:¬ (n:Int)≤(k:Int):=by omega
   obtain ⟨bb,off,rfl,HQ⟩:=HC.out (by have:=hk1.out;omega);obtain ⟨⟨e0,e1,e2,e3,e4⟩,he⟩:∃ x,l[k]'hk1.out=x:=⟨_,rfl⟩;have HE:Hid (l[k]'hk1.out=(e0,e1,e2,e3,e4)):=he;have HNx:Hid (sTo level l (k+1)=sTo level l k++stepOf level l (e0,e1,e2,e3,e4)):=by show _=_;rw [sTo_next level l k hk1.out,he]
   obtain ⟨x0,x1,x2,x3,x4⟩:=HQ.out k hk1.out _ hbw;rw [he] at x0 x1 x2 x3 x4;simp only at x0 x1 x2 x3 x4;clear he;have HO:Hid (stepOf level l (e0,e1,e2,e3,e4)=[]):=stepOf_o level l _ hl1 hl2;go_wp2_with fail
   obtain ⟨rr,hrr⟩:∃ rr,u5=rr:=⟨_,rfl⟩;obtain ⟨ww,hww⟩:∃ ww,wr=ww:=⟨_,rfl⟩;rw [hrr] at hrow ⊢;rw [hww] at hrow hbw HS x0 x1 x2 x3 x4 ⊢;clear hrr hww;go_loopw [5,7] (fun r i wq=>r=rr∧i=.int .i64 0∧wq=ww) (fun _ _ _=>0)
   case atStart=>exact ⟨rfl,rfl,rfl⟩
   case round =>
    obtain ⟨rfl,rfl,rfl⟩:=hrel;have j0:(0:Int) < (n:Int):=by omega
    go_wp2_with fail
    refine ⟨⟨k+1,c,L',by omega,by omega,by first | go_num | simp,HL,by show StB _ _ _;rw [HNx.out,HO.out,List.append_nil];exact HS.out,hbw,hrow⟩,by simp [RowKit.intOf];omega⟩
  ·obtain rfl:k=n:=by omega
   have j0:¬ (k:Int) < (k:Int):=by omega
   have HEnd:Hid (sTo level l k=stepsL level l):=by show _=_;rw [← HN.out];exact sTo_all level l
   go_wp2_with fail
   go_ret
   have hl:=HL.out;subst hl;exact ⟨_,L',rfl,hbw,hrow,by rw [← HEnd.out];exact HS.out.of⟩
set_option maxHeartbeats 4000000 in
theorem rsteps_1 (l:List Ed) (v:Value) (w:World) (hT:IsEds w v l) (hle:l.length≤1000) :
 Calls Tryz.prog 62 #[.int .i64 1,v] w fun e w'=>StRow 113 w (stepsL 1 l) e w':=by
 obtain ⟨i0,hi,hz0,hz1,hz2⟩:=info_parts st_info;obtain ⟨a,cap,rfl,h1,h2,h3,HC⟩:=hT.reads;obtain ⟨n,hn⟩:∃ n,l.length=n:=⟨_,rfl⟩;have HN:Hid (l.length=n):=hn;rw [hn] at h1 h3 hle ⊢;clear hT hn
 skip
 go_enter Tryz.func62,Tryz.ntmps62
 go_wp2_with fail
 go_loopw [5,6] (fun r i wr=>∃ (k c:Nat) (L':List SVt),k≤n∧c≤k*1001∧i=.int .i64 k∧Hid (L'.length=c)∧Hid (StB wr L' (sTo 1 l k))∧Below w.heap.size w wr∧wr.ownsRow w.heap.size 113 3 r c (recV stV L')) (fun _ i _=>n - (RowKit.intOf i).toNat)
 case atStart=>exact ⟨0,0,[],Nat.zero_le _,Nat.zero_le _,rfl,rfl,StB.nil _,Below.refl _ _,World.ownsRow_nil _ _ _ _⟩
 case round =>
  obtain ⟨k,c,L',hk,hc,rfl,HL,HS,hbw,hrow⟩:=hrel
  by_cases hlt:k < n
  ·have hk1:Hid (k < l.length):=by show k < _;rw [HN.out];exact hlt
   have jk:(k:Int) < (n:Int):=by omega
   have jk2:¬ (n:Int)≤(k:Int):=by omega
   obtain ⟨bb,off,rfl,HQ⟩:=HC.out (by have:=hk1.out;omega);obtain ⟨⟨e0,e1,e2,e3,e4⟩,he⟩:∃ x,l[k]'hk1.out=x:=⟨_,rfl⟩;have HE:Hid (l[k]'hk1.out=(e0,e1,e2,e3,e4)):=he;have HNx:Hid (sTo 1 l (k+1)=sTo 1 l k++stepOf 1 l (e0,e1,e2,e3,e4)):=by show _=_;rw [sTo_next 1 l k hk1.out,he]
   obtain ⟨x0,x1,x2,x3,x4⟩:=HQ.out k hk1.out _ hbw;rw [he] at x0 x1 x2 x3 x4;simp only at x0 x1 x2 x3 x4;clear he;have HO:Hid (stepOf 1 l (e0,e1,e2,e3,e4)=[(e1,e2,[(e0,e1,e2,e3,e4)])]):=stepOf_1 l _;go_wp2_with fail
   refine wp_region_any (by kernel_rfl) ?_;change wpAny _ _ _ _ _ _ _ (World.drew _);generalize hwd:World.drew _=wd;have hbd:Below w.heap.size w wd:=by rw [← hwd];exact hbw.drew
   have hrowd:wd.ownsRow w.heap.size 113 3 u5 c (recV stV L'):=by rw [← hwd];exact hrow
   have hsd:StB wd L' (sTo 1 l k):=by rw [← hwd];exact (HS.out)
   clear hwd;have sd:=hbd.size;obtain ⟨de0,de1,de2,de3,de4⟩:=HQ.out k hk1.out _ hbd;rw [HE.out] at de0 de1 de2 de3 de4;simp only at de0 de1 de2 de3 de4;refine any_of_C (C:=fun V=>V.cell? ⟨bb,off+k*5,none⟩=some (.int .i64 e0)∧V.cell? ⟨bb,off+k*5+1,none⟩=some (.int .i64 e1)∧V.cell? ⟨bb,off+k*5+2,none⟩=some (.int .i64 e2)∧V.cell? ⟨bb,off+k*5+3,none⟩=some (.int .i64 e3)∧V.cell? ⟨bb,off+k*5+4,none⟩=some (.int .i64 e4)) 19 _ _ _ _ ?_;refine takeC (i:=0) (v:=u5) rfl (by kernel_rfl) (by kernel_rfl) (by kernel_rfl) (by kernel_rfl) (by kernel_rfl) (fun _ _ _ h=>h) (Or.inl ⟨by kernel_rfl,fun V hV=>by obtain ⟨r0,r1,r2,r3,r4⟩:=hV;go_simp⟩) ?_;refine takeC (i:=1) (v:=.slice (some ⟨bb,off,none⟩) n cap) rfl (by kernel_rfl) (by kernel_rfl) (by kernel_rfl) (by kernel_rfl) (by kernel_rfl) (fun _ _ _ h=>h) (Or.inl ⟨by kernel_rfl,fun V hV=>by obtain ⟨r0,r1,r2,r3,r4⟩:=hV;go_simp⟩) ?_
   refine takeC (i:=2) (v:=.int .i64 (k:Int)) rfl (by kernel_rfl) (by kernel_rfl) (by kernel_rfl) (by kernel_rfl) (by kernel_rfl) (fun _ _ _ h=>h) (Or.inl ⟨by kernel_rfl,fun V hV=>by obtain ⟨r0,r1,r2,r3,r4⟩:=hV;go_simp⟩) ?_;refine takeC (i:=3) (v:=.pointer (some ⟨bb,off+k*5,none⟩)) rfl (by kernel_rfl) (by kernel_rfl) (by kernel_rfl) (by kernel_rfl) (by kernel_rfl) (fun _ _ _ h=>h) (Or.inl ⟨by kernel_rfl,fun V hV=>by obtain ⟨r0,r1,r2,r3,r4⟩:=hV;go_simp⟩) ?_;refine takeC (i:=4) (v:=.pointer (some ⟨bb,off+k*5+1,none⟩)) rfl (by kernel_rfl) (by kernel_rfl) (by kernel_rfl) (by kernel_rfl) (by kernel_rfl) (fun _ _ _ h=>h) (Or.inl ⟨by kernel_rfl,fun V hV=>by obtain ⟨r0,r1,r2,r3,r4⟩:=hV;go_simp⟩) ?_;refine takeC (i:=5) (v:=.int .i64 e1) rfl (by kernel_rfl) (by kernel_rfl) (by kernel_rfl) (by kernel_rfl) (by kernel_rfl) (fun _ _ _ h=>h) (Or.inl ⟨by kernel_rfl,fun V hV=>by obtain ⟨r0,r1,r2,r3,r4⟩:=hV;go_simp⟩) ?_
   refine takeC (i:=6) (v:=.slice (some ⟨bb,off,none⟩) n cap) rfl (by kernel_rfl) (by kernel_rfl) (by kernel_rfl) (by kernel_rfl) (by kernel_rfl) (fun _ _ _ h=>h) (Or.inl ⟨by kernel_rfl,fun V hV=>by obtain ⟨r0,r1,r2,r3,r4⟩:=hV;go_simp⟩) ?_;refine takeC (i:=7) (v:=.int .i64 (k:Int)) rfl (by kernel_rfl) (by kernel_rfl) (by kernel_rfl) (by kernel_rfl) (by kernel_rfl) (fun _ _ _ h=>h) (Or.inl ⟨by kernel_rfl,fun V hV=>by obtain ⟨r0,r1,r2,r3,r4⟩:=hV;go_simp⟩) ?_;refine takeC (i:=8) (v:=.pointer (some ⟨bb,off+k*5,none⟩)) rfl (by kernel_rfl) (by kernel_rfl) (by kernel_rfl) (by kernel_rfl) (by kernel_rfl) (fun _ _ _ h=>h) (Or.inl ⟨by kernel_rfl,fun V hV=>by obtain ⟨r0,r1,r2,r3,r4⟩:=hV;go_simp⟩) ?_;refine takeC (i:=9) (v:=.pointer (some ⟨bb,off+k*5+2,none⟩)) rfl (by kernel_rfl) (by kernel_rfl) (by kernel_rfl) (by kernel_rfl) (by kernel_rfl) (fun _ _ _ h=>h) (Or.inl ⟨by kernel_rfl,fun V hV=>by obtain ⟨r0,r1,r2,r3,r4⟩:=hV;go_simp⟩) ?_
   refine takeC (i:=10) (v:=.int .i64 e2) rfl (by kernel_rfl) (by kernel_rfl) (by kernel_rfl) (by kernel_rfl) (by kernel_rfl) (fun _ _ _ h=>h) (Or.inl ⟨by kernel_rfl,fun V hV=>by obtain ⟨r0,r1,r2,r3,r4⟩:=hV;go_simp⟩) ?_;refine takeC (i:=11) (v:=.slice (some ⟨bb,off,none⟩) n cap) rfl (by kernel_rfl) (by kernel_rfl) (by kernel_rfl) (by kernel_rfl) (by kernel_rfl) (fun _ _ _ h=>h) (Or.inl ⟨by kernel_rfl,fun V hV=>by obtain ⟨r0,r1,r2,r3,r4⟩:=hV;go_simp⟩) ?_;refine takeC (i:=12) (v:=.int .i64 (k:Int)) rfl (by kernel_rfl) (by kernel_rfl) (by kernel_rfl) (by kernel_rfl) (by kernel_rfl) (fun _ _ _ h=>h) (Or.inl ⟨by kernel_rfl,fun V hV=>by obtain ⟨r0,r1,r2,r3,r4⟩:=hV;go_simp⟩) ?_;refine takeC (i:=13) (v:=.pointer (some ⟨bb,off+k*5,none⟩)) rfl (by kernel_rfl) (by kernel_rfl) (by kernel_rfl) (by kernel_rfl) (by kernel_rfl) (fun _ _ _ h=>h) (Or.inl ⟨by kernel_rfl,fun V hV=>by obtain ⟨r0,r1,r2,r3,r4⟩:=hV;go_simp⟩) ?_
   refine takeC (i:=14) (v:=.agg #[.int .i64 e0,.int .i64 e1,.int .i64 e2,.int .i64 e3,.int .i64 e4]) rfl (by kernel_rfl) (by kernel_rfl) (by kernel_rfl) (by kernel_rfl) (by kernel_rfl) (fun _ _ _ h=>h) (Or.inl ⟨by kernel_rfl,fun V hV=>by obtain ⟨r0,r1,r2,r3,r4⟩:=hV;go_simp⟩) ?_;refine consC (i:=15) (by kernel_rfl) (by kernel_rfl) ⟨de0,de1,de2,de3,de4⟩ rfl (fun K hK=>?_);go_wp2_with fail
   refine takeC (i:=16) (v:=.agg #[.int .i64 e1,.int .i64 e2,.slice (some ⟨wd.heap.size,0,none⟩) 1 1]) rfl (by kernel_rfl) (by kernel_rfl) (by kernel_rfl) (by kernel_rfl) (by kernel_rfl) (fun _ _ _ h=>h) (Or.inl ⟨by kernel_rfl,fun V hV=>by obtain ⟨r0,r1,r2,r3,r4⟩:=hV;go_simp⟩) ?_;refine consC (i:=17) (by kernel_rfl) (by kernel_rfl) ⟨cell_al _ de0,cell_al _ de1,cell_al _ de2,cell_al _ de3,cell_al _ de4⟩ rfl (fun K hK=>?_);go_wp2_with fail
   refine consC (i:=18) (by kernel_rfl) (by kernel_rfl) ⟨cell_al _ (cell_al _ de0),cell_al _ (cell_al _ de1),cell_al _ (cell_al _ de2),cell_al _ (cell_al _ de3),cell_al _ (cell_al _ de4)⟩ rfl (fun K hK=>?_);refine wpList_append_own_at _ rfl _ _ 107 rfl w.heap.size 113 i0 (.agg #[.int .i64 0,.int .i64 0,.slice none 0 0]) 3 40 Tryz.underlying107 hi hz0 hz1 hz2 rfl (by decide) u5 _ _ rfl ((hrowd.alloc (.cells #[.int .i64 e0,.int .i64 e1,.int .i64 e2,.int .i64 e3,.int .i64 e4] 32)).alloc _) ⟨wd.heap.size+1,0,none⟩ 1 1 [.int .i64 e1,.int .i64 e2,.slice (some ⟨wd.heap.size,0,none⟩) 1 1] rfl rfl ?a1p ?a2p ?a3p ?a4p ?a5p ?_
   case a1p=>intro j u hj;match j,hj with
    | 0,hj=>simp at hj;subst hj;first | (simp [Addr.add];done) | exact cell_new7 (by simp) rfl
    | 1,hj=>simp at hj;subst hj;first | (simp [Addr.add];done) | exact cell_new7 (by simp) rfl
    | 2,hj=>simp at hj;subst hj;first | (simp [Addr.add];done) | exact cell_new7 (by simp) rfl
   case a2p=>intro u hu;simp at hu;rcases hu with rfl | rfl | rfl<;>rfl
   case a3p=>unfold maxLen;omega
   case a4p=>omega
   case a5p=>simp;omega
   intro r3 w3 hown3 hg3 _ hat3;have hs3:=hsd.push hrowd (by decide) [(e0,e1,e2,e3,e4)] (by simp) (e1) (e2) (.cells #[.int .i64 e1,.int .i64 e2,.slice (some ⟨wd.heap.size,0,none⟩) 1 1] 113) hg3;have B3:Below w.heap.size w w3:=((hbd.alloc sd _).alloc (by simp;omega) _).grown hg3 (by simp;omega) (fun j hj=>(hrowd.lt j hj).1);obtain ⟨fe0,fe1,fe2,fe3,fe4⟩:=HQ.out k hk1.out _ B3;rw [HE.out] at fe0 fe1 fe2 fe3 fe4;simp only at fe0 fe1 fe2 fe3 fe4;go_wp2_with fail
   refine lastC (by kernel_rfl) (by kernel_rfl) ⟨fe0,fe1,fe2,fe3,fe4⟩ (of_decide_eq_true (by kernel_rfl)) ?_;refine any_seqI [19] [_] _ _ _ rfl (by kernel_rfl) ?_;go_wp2_with fail
   have hown4:w3.ownsRow w.heap.size 113 3 r3 (c+1) (recV stV (L'++[(e1,e2,.slice (some ⟨wd.heap.size,0,none⟩) 1 1)])):=by rw [recS_snoc];exact hown3
   obtain ⟨zz,hzz⟩:∃ zz,wd.heap.size=zz:=⟨_,rfl⟩;rw [hzz] at hown4 hs3 ⊢;clear hzz hown3 hg3 hat3 hrowd hsd hbd hrow HS fe0 fe1 fe2 fe3 fe4 x0 x1 x2 x3 x4 sd;obtain ⟨rr,hrr⟩:∃ rr,r3=rr:=⟨_,rfl⟩;obtain ⟨ww,hww⟩:∃ ww,w3=ww:=⟨_,rfl⟩;rw [hrr] at hown4 ⊢;rw [hww] at hown4 B3 hs3 ⊢;clear hrr hww;go_loopw [5,7] (fun r i wq=>r=rr∧i=.int .i64 0∧wq=ww) (fun _ _ _=>0)
   case atStart=>exact ⟨rfl,rfl,rfl⟩
   case round =>
    obtain ⟨rfl,rfl,rfl⟩:=hrel;have j0:(0:Int) < (n:Int):=by omega
    go_wp2_with fail
    refine ⟨⟨k+1,c+1,L'++[(e1,e2,.slice (some ⟨zz,0,none⟩) 1 1)],by omega,by omega,by first | go_num | simp,by show _=_;rw [List.length_append,HL.out];rfl,by show StB _ _ _;rw [HNx.out,HO.out];exact hs3,B3,hown4⟩,by simp [RowKit.intOf];omega⟩
  ·obtain rfl:k=n:=by omega
   have j0:¬ (k:Int) < (k:Int):=by omega
   have HEnd:Hid (sTo 1 l k=stepsL 1 l):=by show _=_;rw [← HN.out];exact sTo_all 1 l
   go_wp2_with fail
   go_ret
   have hl:=HL.out;subst hl;exact ⟨_,L',rfl,hbw,hrow,by rw [← HEnd.out];exact HS.out.of⟩
set_option maxHeartbeats 4000000 in
theorem rsteps_2 (l:List Ed) (v:Value) (w:World) (hT:IsEds w v l) (hle:l.length≤1000) :
 Calls Tryz.prog 62 #[.int .i64 2,v] w fun e w'=>StRow 113 w (stepsL 2 l) e w':=by
 obtain ⟨i0,hi,hz0,hz1,hz2⟩:=info_parts st_info;obtain ⟨a,cap,rfl,h1,h2,h3,HC⟩:=hT.reads;obtain ⟨n,hn⟩:∃ n,l.length=n:=⟨_,rfl⟩;have HN:Hid (l.length=n):=hn;rw [hn] at h1 h3 hle ⊢;clear hT hn
 skip
 go_enter Tryz.func62,Tryz.ntmps62
 go_wp2_with fail
 go_loopw [5,6] (fun r i wr=>∃ (k c:Nat) (L':List SVt),k≤n∧c≤k*1001∧i=.int .i64 k∧Hid (L'.length=c)∧Hid (StB wr L' (sTo 2 l k))∧Below w.heap.size w wr∧wr.ownsRow w.heap.size 113 3 r c (recV stV L')) (fun _ i _=>n - (RowKit.intOf i).toNat)
 case atStart=>exact ⟨0,0,[],Nat.zero_le _,Nat.zero_le _,rfl,rfl,StB.nil _,Below.refl _ _,World.ownsRow_nil _ _ _ _⟩
 case round =>
  obtain ⟨k,c,L',hk,hc,rfl,HL,HS,hbw,hrow⟩:=hrel
  by_cases hlt:k < n
  ·have hk1:Hid (k < l.length):=by show k < _;rw [HN.out];exact hlt
   have jk:(k:Int) < (n:Int):=by omega
   have jk2:¬ (n:Int)≤(k:Int):=by omega
   obtain ⟨bb,off,rfl,HQ⟩:=HC.out (by have:=hk1.out;omega);obtain ⟨⟨e0,e1,e2,e3,e4⟩,he⟩:∃ x,l[k]'hk1.out=x:=⟨_,rfl⟩;have HE:Hid (l[k]'hk1.out=(e0,e1,e2,e3,e4)):=he;have HNx:Hid (sTo 2 l (k+1)=sTo 2 l k++stepOf 2 l (e0,e1,e2,e3,e4)):=by show _=_;rw [sTo_next 2 l k hk1.out,he]
   obtain ⟨x0,x1,x2,x3,x4⟩:=HQ.out k hk1.out _ hbw;rw [he] at x0 x1 x2 x3 x4;simp only at x0 x1 x2 x3 x4;clear he
   by_cases d3:e0=3
   ·have y0:(e0 != 3)=false:=by rw [d3];rfl
    have HO:Hid (stepOf 2 l (e0,e1,e2,e3,e4)=[]):=stepOf_23 l _ d3;clear d3;go_wp2_with fail
    obtain ⟨rr,hrr⟩:∃ rr,u5=rr:=⟨_,rfl⟩;obtain ⟨ww,hww⟩:∃ ww,wr=ww:=⟨_,rfl⟩;rw [hrr] at hrow ⊢;rw [hww] at hrow hbw HS x0 x1 x2 x3 x4 ⊢;clear hrr hww;go_loopw [5,7] (fun r i wq=>r=rr∧i=.int .i64 0∧wq=ww) (fun _ _ _=>0)
    case atStart=>exact ⟨rfl,rfl,rfl⟩
    case round =>
     obtain ⟨rfl,rfl,rfl⟩:=hrel;have j0:(0:Int) < (n:Int):=by omega
     go_wp2_with fail
     refine ⟨⟨k+1,c,L',by omega,by omega,by first | go_num | simp,HL,by show StB _ _ _;rw [HNx.out,HO.out,List.append_nil];exact HS.out,hbw,hrow⟩,by simp [RowKit.intOf];omega⟩
   ·have y0:(e0 != 3)=true:=bne_iff_ne.2 d3
    have HO:Hid (stepOf 2 l (e0,e1,e2,e3,e4)=(e1,e2,[(e0,e1,e2,e3,e4)])::sIn l (e0,e1,e2,e3,e4) n):=by show _=_;rw [stepOf_2 l _ d3,← HN.out,sIn_all];rfl
    clear d3;go_wp2_with fail
    refine wp_region_any (by kernel_rfl) ?_;change wpAny _ _ _ _ _ _ _ (World.drew _);generalize hwd:World.drew _=wd;have hbd:Below w.heap.size w wd:=by rw [← hwd];exact hbw.drew
    have hrowd:wd.ownsRow w.heap.size 113 3 u5 c (recV stV L'):=by rw [← hwd];exact hrow
    have hsd:StB wd L' (sTo 2 l k):=by rw [← hwd];exact (HS.out)
    clear hwd;have sd:=hbd.size;obtain ⟨de0,de1,de2,de3,de4⟩:=HQ.out k hk1.out _ hbd;rw [HE.out] at de0 de1 de2 de3 de4;simp only at de0 de1 de2 de3 de4;refine any_of_C (C:=fun V=>V.cell? ⟨bb,off+k*5,none⟩=some (.int .i64 e0)∧V.cell? ⟨bb,off+k*5+1,none⟩=some (.int .i64 e1)∧V.cell? ⟨bb,off+k*5+2,none⟩=some (.int .i64 e2)∧V.cell? ⟨bb,off+k*5+3,none⟩=some (.int .i64 e3)∧V.cell? ⟨bb,off+k*5+4,none⟩=some (.int .i64 e4)) 19 _ _ _ _ ?_;refine takeC (i:=0) (v:=u5) rfl (by kernel_rfl) (by kernel_rfl) (by kernel_rfl) (by kernel_rfl) (by kernel_rfl) (fun _ _ _ h=>h) (Or.inl ⟨by kernel_rfl,fun V hV=>by obtain ⟨r0,r1,r2,r3,r4⟩:=hV;go_simp⟩) ?_;refine takeC (i:=1) (v:=.slice (some ⟨bb,off,none⟩) n cap) rfl (by kernel_rfl) (by kernel_rfl) (by kernel_rfl) (by kernel_rfl) (by kernel_rfl) (fun _ _ _ h=>h) (Or.inl ⟨by kernel_rfl,fun V hV=>by obtain ⟨r0,r1,r2,r3,r4⟩:=hV;go_simp⟩) ?_
    refine takeC (i:=2) (v:=.int .i64 (k:Int)) rfl (by kernel_rfl) (by kernel_rfl) (by kernel_rfl) (by kernel_rfl) (by kernel_rfl) (fun _ _ _ h=>h) (Or.inl ⟨by kernel_rfl,fun V hV=>by obtain ⟨r0,r1,r2,r3,r4⟩:=hV;go_simp⟩) ?_;refine takeC (i:=3) (v:=.pointer (some ⟨bb,off+k*5,none⟩)) rfl (by kernel_rfl) (by kernel_rfl) (by kernel_rfl) (by kernel_rfl) (by kernel_rfl) (fun _ _ _ h=>h) (Or.inl ⟨by kernel_rfl,fun V hV=>by obtain ⟨r0,r1,r2,r3,r4⟩:=hV;go_simp⟩) ?_;refine takeC (i:=4) (v:=.pointer (some ⟨bb,off+k*5+1,none⟩)) rfl (by kernel_rfl) (by kernel_rfl) (by kernel_rfl) (by kernel_rfl) (by kernel_rfl) (fun _ _ _ h=>h) (Or.inl ⟨by kernel_rfl,fun V hV=>by obtain ⟨r0,r1,r2,r3,r4⟩:=hV;go_simp⟩) ?_
    refine takeC (i:=5) (v:=.int .i64 e1) rfl (by kernel_rfl) (by kernel_rfl) (by kernel_rfl) (by kernel_rfl) (by kernel_rfl) (fun _ _ _ h=>h) (Or.inl ⟨by kernel_rfl,fun V hV=>by obtain ⟨r0,r1,r2,r3,r4⟩:=hV;go_simp⟩) ?_;refine takeC (i:=6) (v:=.slice (some ⟨bb,off,none⟩) n cap) rfl (by kernel_rfl) (by kernel_rfl) (by kernel_rfl) (by kernel_rfl) (by kernel_rfl) (fun _ _ _ h=>h) (Or.inl ⟨by kernel_rfl,fun V hV=>by obtain ⟨r0,r1,r2,r3,r4⟩:=hV;go_simp⟩) ?_;refine takeC (i:=7) (v:=.int .i64 (k:Int)) rfl (by kernel_rfl) (by kernel_rfl) (by kernel_rfl) (by kernel_rfl) (by kernel_rfl) (fun _ _ _ h=>h) (Or.inl ⟨by kernel_rfl,fun V hV=>by obtain ⟨r0,r1,r2,r3,r4⟩:=hV;go_simp⟩) ?_;refine takeC (i:=8) (v:=.pointer (some ⟨bb,off+k*5,none⟩)) rfl (by kernel_rfl) (by kernel_rfl) (by kernel_rfl) (by kernel_rfl) (by kernel_rfl) (fun _ _ _ h=>h) (Or.inl ⟨by kernel_rfl,fun V hV=>by obtain ⟨r0,r1,r2,r3,r4⟩:=hV;go_simp⟩) ?_
    refine takeC (i:=9) (v:=.pointer (some ⟨bb,off+k*5+2,none⟩)) rfl (by kernel_rfl) (by kernel_rfl) (by kernel_rfl) (by kernel_rfl) (by kernel_rfl) (fun _ _ _ h=>h) (Or.inl ⟨by kernel_rfl,fun V hV=>by obtain ⟨r0,r1,r2,r3,r4⟩:=hV;go_simp⟩) ?_;refine takeC (i:=10) (v:=.int .i64 e2) rfl (by kernel_rfl) (by kernel_rfl) (by kernel_rfl) (by kernel_rfl) (by kernel_rfl) (fun _ _ _ h=>h) (Or.inl ⟨by kernel_rfl,fun V hV=>by obtain ⟨r0,r1,r2,r3,r4⟩:=hV;go_simp⟩) ?_;refine takeC (i:=11) (v:=.slice (some ⟨bb,off,none⟩) n cap) rfl (by kernel_rfl) (by kernel_rfl) (by kernel_rfl) (by kernel_rfl) (by kernel_rfl) (fun _ _ _ h=>h) (Or.inl ⟨by kernel_rfl,fun V hV=>by obtain ⟨r0,r1,r2,r3,r4⟩:=hV;go_simp⟩) ?_;refine takeC (i:=12) (v:=.int .i64 (k:Int)) rfl (by kernel_rfl) (by kernel_rfl) (by kernel_rfl) (by kernel_rfl) (by kernel_rfl) (fun _ _ _ h=>h) (Or.inl ⟨by kernel_rfl,fun V hV=>by obtain ⟨r0,r1,r2,r3,r4⟩:=hV;go_simp⟩) ?_
    refine takeC (i:=13) (v:=.pointer (some ⟨bb,off+k*5,none⟩)) rfl (by kernel_rfl) (by kernel_rfl) (by kernel_rfl) (by kernel_rfl) (by kernel_rfl) (fun _ _ _ h=>h) (Or.inl ⟨by kernel_rfl,fun V hV=>by obtain ⟨r0,r1,r2,r3,r4⟩:=hV;go_simp⟩) ?_;refine takeC (i:=14) (v:=.agg #[.int .i64 e0,.int .i64 e1,.int .i64 e2,.int .i64 e3,.int .i64 e4]) rfl (by kernel_rfl) (by kernel_rfl) (by kernel_rfl) (by kernel_rfl) (by kernel_rfl) (fun _ _ _ h=>h) (Or.inl ⟨by kernel_rfl,fun V hV=>by obtain ⟨r0,r1,r2,r3,r4⟩:=hV;go_simp⟩) ?_;refine consC (i:=15) (by kernel_rfl) (by kernel_rfl) ⟨de0,de1,de2,de3,de4⟩ rfl (fun K hK=>?_);go_wp2_with fail
    refine takeC (i:=16) (v:=.agg #[.int .i64 e1,.int .i64 e2,.slice (some ⟨wd.heap.size,0,none⟩) 1 1]) rfl (by kernel_rfl) (by kernel_rfl) (by kernel_rfl) (by kernel_rfl) (by kernel_rfl) (fun _ _ _ h=>h) (Or.inl ⟨by kernel_rfl,fun V hV=>by obtain ⟨r0,r1,r2,r3,r4⟩:=hV;go_simp⟩) ?_;refine consC (i:=17) (by kernel_rfl) (by kernel_rfl) ⟨cell_al _ de0,cell_al _ de1,cell_al _ de2,cell_al _ de3,cell_al _ de4⟩ rfl (fun K hK=>?_);go_wp2_with fail
    refine consC (i:=18) (by kernel_rfl) (by kernel_rfl) ⟨cell_al _ (cell_al _ de0),cell_al _ (cell_al _ de1),cell_al _ (cell_al _ de2),cell_al _ (cell_al _ de3),cell_al _ (cell_al _ de4)⟩ rfl (fun K hK=>?_);refine wpList_append_own_at _ rfl _ _ 107 rfl w.heap.size 113 i0 (.agg #[.int .i64 0,.int .i64 0,.slice none 0 0]) 3 40 Tryz.underlying107 hi hz0 hz1 hz2 rfl (by decide) u5 _ _ rfl ((hrowd.alloc (.cells #[.int .i64 e0,.int .i64 e1,.int .i64 e2,.int .i64 e3,.int .i64 e4] 32)).alloc _) ⟨wd.heap.size+1,0,none⟩ 1 1 [.int .i64 e1,.int .i64 e2,.slice (some ⟨wd.heap.size,0,none⟩) 1 1] rfl rfl ?a1q ?a2q ?a3q ?a4q ?a5q ?_
    case a1q=>intro j u hj;match j,hj with
     | 0,hj=>simp at hj;subst hj;first | (simp [Addr.add];done) | exact cell_new7 (by simp) rfl
     | 1,hj=>simp at hj;subst hj;first | (simp [Addr.add];done) | exact cell_new7 (by simp) rfl
     | 2,hj=>simp at hj;subst hj;first | (simp [Addr.add];done) | exact cell_new7 (by simp) rfl
    case a2q=>intro u hu;simp at hu;rcases hu with rfl | rfl | rfl<;>rfl
    case a3q=>unfold maxLen;omega
    case a4q=>omega
    case a5q=>simp;omega
    intro r3 w3 hown3 hg3 _ hat3;have hs3:=hsd.push hrowd (by decide) [(e0,e1,e2,e3,e4)] (by simp) (e1) (e2) (.cells #[.int .i64 e1,.int .i64 e2,.slice (some ⟨wd.heap.size,0,none⟩) 1 1] 113) hg3;have B3:Below w.heap.size w w3:=((hbd.alloc sd _).alloc (by simp;omega) _).grown hg3 (by simp;omega) (fun j hj=>(hrowd.lt j hj).1);obtain ⟨fe0,fe1,fe2,fe3,fe4⟩:=HQ.out k hk1.out _ B3;rw [HE.out] at fe0 fe1 fe2 fe3 fe4;simp only at fe0 fe1 fe2 fe3 fe4;go_wp2_with fail
    refine lastC (by kernel_rfl) (by kernel_rfl) ⟨fe0,fe1,fe2,fe3,fe4⟩ (of_decide_eq_true (by kernel_rfl)) ?_;refine any_seqI [19] [_] _ _ _ rfl (by kernel_rfl) ?_;go_wp2_with fail
    have hL3:Hid ((L'++[((e1,e2,.slice (some ⟨wd.heap.size,0,none⟩) 1 1):SVt)]).length=c+1):=by show _=_;rw [List.length_append,HL.out];rfl
    have hs4:StB w3 (L'++[(e1,e2,.slice (some ⟨wd.heap.size,0,none⟩) 1 1)]) (sTo 2 l k++((e1,e2,[(e0,e1,e2,e3,e4)])::sIn l (e0,e1,e2,e3,e4) 0)):=hs3;have hown4:w3.ownsRow w.heap.size 113 3 r3 (c+1) (recV stV (L'++[(e1,e2,.slice (some ⟨wd.heap.size,0,none⟩) 1 1)])):=by rw [recS_snoc];exact hown3
    obtain ⟨M0,hM0⟩:∃ M0,L'++[((e1,e2,.slice (some ⟨wd.heap.size,0,none⟩) 1 1):SVt)]=M0:=⟨_,rfl⟩;rw [hM0] at hL3 hs4 hown4;clear hs3 hown3 hg3 hM0 hat3 hrowd hsd hbd hrow HS fe0 fe1 fe2 fe3 fe4 x0 x1 x2 x3 x4 sd;go_loopw [5,7] (fun r i wr=>∃ (q c':Nat) (M':List SVt),q≤n∧c'≤k*1001+1+q∧i=.int .i64 q∧Hid (M'.length=c')∧Hid (StB wr M' (sTo 2 l k++((e1,e2,[(e0,e1,e2,e3,e4)])::sIn l (e0,e1,e2,e3,e4) q)))∧Below w.heap.size w wr∧wr.ownsRow w.heap.size 113 3 r c' (recV stV M')) (fun _ i _=>n - (RowKit.intOf i).toNat)
    case atStart=>exact ⟨0,c+1,M0,Nat.zero_le _,by omega,rfl,hL3,hs4,B3,hown4⟩
    case round =>
     obtain ⟨q,c',M',hq,hc',rfl,HLq,HSq,hbq,hrowq⟩:=hrel;obtain ⟨x0,x1,x2,x3,x4⟩:=HQ.out k hk1.out _ hbq;rw [HE.out] at x0 x1 x2 x3 x4;simp only at x0 x1 x2 x3 x4
     by_cases hlq:q < n
     ·have hq1:Hid (q < l.length):=by show q < _;rw [HN.out];exact hlq
      have jq:(q:Int) < (n:Int):=by omega
      obtain ⟨⟨g0,g1,g2,g3,g4⟩,hg⟩:∃ x,l[q]'hq1.out=x:=⟨_,rfl⟩;have HG:Hid (l[q]'hq1.out=(g0,g1,g2,g3,g4)):=hg;obtain ⟨z0,z1,z2,z3,z4⟩:=HQ.out q hq1.out _ hbq;rw [hg] at z0 z1 z2 z3 z4;simp only at z0 z1 z2 z3 z4;clear hg
      by_cases hm:g0=3∧g1=e2
      ·have m0:(g0==3)=true:=by rw [hm.1];rfl
       have m1:(g1==e2)=true:=by rw [hm.2];exact beq_self_eq_true _
       have HY:Hid (sIn l (e0,e1,e2,e3,e4) (q+1)=sIn l (e0,e1,e2,e3,e4) q++[(e1,g2,[(e0,e1,e2,e3,e4),(g0,g1,g2,g3,g4)])]):=by show _=_;rw [sIn_yes l _ q hq1.out (by rw [HG.out];exact hm),HG.out];rfl
       clear hm;go_wp2_with fail
       go_quiet (fail)
       go_wp2_with fail
       refine wp_region_any (by kernel_rfl) ?_;change wpAny _ _ _ _ _ _ _ (World.drew _);generalize hwd:World.drew _=wd;have hbd:Below w.heap.size w wd:=by rw [← hwd];first | exact (below_drewN hbq _).drew | exact hbq.drew
       have hrowd:wd.ownsRow w.heap.size 113 3 u5 c' (recV stV M'):=by rw [← hwd];exact hrowq
       have hsd:StB wd M' (sTo 2 l k++((e1,e2,[(e0,e1,e2,e3,e4)])::sIn l (e0,e1,e2,e3,e4) q)):=by rw [← hwd];exact (HSq.out)
       clear hwd;have sd:=hbd.size;obtain ⟨de0,de1,de2,de3,de4⟩:=HQ.out k hk1.out _ hbd;rw [HE.out] at de0 de1 de2 de3 de4;simp only at de0 de1 de2 de3 de4;obtain ⟨dg0,dg1,dg2,dg3,dg4⟩:=HQ.out q hq1.out _ hbd;rw [HG.out] at dg0 dg1 dg2 dg3 dg4;simp only at dg0 dg1 dg2 dg3 dg4;refine any_of_C (C:=fun V=>V.cell? ⟨bb,off+k*5,none⟩=some (.int .i64 e0)∧V.cell? ⟨bb,off+k*5+1,none⟩=some (.int .i64 e1)∧V.cell? ⟨bb,off+k*5+2,none⟩=some (.int .i64 e2)∧V.cell? ⟨bb,off+k*5+3,none⟩=some (.int .i64 e3)∧V.cell? ⟨bb,off+k*5+4,none⟩=some (.int .i64 e4)∧V.cell? ⟨bb,off+q*5,none⟩=some (.int .i64 g0)∧V.cell? ⟨bb,off+q*5+1,none⟩=some (.int .i64 g1)∧V.cell? ⟨bb,off+q*5+2,none⟩=some (.int .i64 g2)∧V.cell? ⟨bb,off+q*5+3,none⟩=some (.int .i64 g3)∧V.cell? ⟨bb,off+q*5+4,none⟩=some (.int .i64 g4)) 23 _ _ _ _ ?_
       refine takeC (i:=0) (v:=u5) rfl (by kernel_rfl) (by kernel_rfl) (by kernel_rfl) (by kernel_rfl) (by kernel_rfl) (fun _ _ _ h=>h) (Or.inl ⟨by kernel_rfl,fun V hV=>by obtain ⟨r0,r1,r2,r3,r4,r5,r6,r7,r8,r9⟩:=hV;go_simp⟩) ?_;refine takeC (i:=1) (v:=.slice (some ⟨bb,off,none⟩) n cap) rfl (by kernel_rfl) (by kernel_rfl) (by kernel_rfl) (by kernel_rfl) (by kernel_rfl) (fun _ _ _ h=>h) (Or.inl ⟨by kernel_rfl,fun V hV=>by obtain ⟨r0,r1,r2,r3,r4,r5,r6,r7,r8,r9⟩:=hV;go_simp⟩) ?_;refine takeC (i:=2) (v:=.int .i64 (k:Int)) rfl (by kernel_rfl) (by kernel_rfl) (by kernel_rfl) (by kernel_rfl) (by kernel_rfl) (fun _ _ _ h=>h) (Or.inl ⟨by kernel_rfl,fun V hV=>by obtain ⟨r0,r1,r2,r3,r4,r5,r6,r7,r8,r9⟩:=hV;go_simp⟩) ?_
       refine takeC (i:=3) (v:=.pointer (some ⟨bb,off+k*5,none⟩)) rfl (by kernel_rfl) (by kernel_rfl) (by kernel_rfl) (by kernel_rfl) (by kernel_rfl) (fun _ _ _ h=>h) (Or.inl ⟨by kernel_rfl,fun V hV=>by obtain ⟨r0,r1,r2,r3,r4,r5,r6,r7,r8,r9⟩:=hV;go_simp⟩) ?_;refine takeC (i:=4) (v:=.pointer (some ⟨bb,off+k*5+1,none⟩)) rfl (by kernel_rfl) (by kernel_rfl) (by kernel_rfl) (by kernel_rfl) (by kernel_rfl) (fun _ _ _ h=>h) (Or.inl ⟨by kernel_rfl,fun V hV=>by obtain ⟨r0,r1,r2,r3,r4,r5,r6,r7,r8,r9⟩:=hV;go_simp⟩) ?_;refine takeC (i:=5) (v:=.int .i64 e1) rfl (by kernel_rfl) (by kernel_rfl) (by kernel_rfl) (by kernel_rfl) (by kernel_rfl) (fun _ _ _ h=>h) (Or.inl ⟨by kernel_rfl,fun V hV=>by obtain ⟨r0,r1,r2,r3,r4,r5,r6,r7,r8,r9⟩:=hV;go_simp⟩) ?_
       refine takeC (i:=6) (v:=.slice (some ⟨bb,off,none⟩) n cap) rfl (by kernel_rfl) (by kernel_rfl) (by kernel_rfl) (by kernel_rfl) (by kernel_rfl) (fun _ _ _ h=>h) (Or.inl ⟨by kernel_rfl,fun V hV=>by obtain ⟨r0,r1,r2,r3,r4,r5,r6,r7,r8,r9⟩:=hV;go_simp⟩) ?_;refine takeC (i:=7) (v:=.int .i64 (q:Int)) rfl (by kernel_rfl) (by kernel_rfl) (by kernel_rfl) (by kernel_rfl) (by kernel_rfl) (fun _ _ _ h=>h) (Or.inl ⟨by kernel_rfl,fun V hV=>by obtain ⟨r0,r1,r2,r3,r4,r5,r6,r7,r8,r9⟩:=hV;go_simp⟩) ?_;refine takeC (i:=8) (v:=.pointer (some ⟨bb,off+q*5,none⟩)) rfl (by kernel_rfl) (by kernel_rfl) (by kernel_rfl) (by kernel_rfl) (by kernel_rfl) (fun _ _ _ h=>h) (Or.inl ⟨by kernel_rfl,fun V hV=>by obtain ⟨r0,r1,r2,r3,r4,r5,r6,r7,r8,r9⟩:=hV;go_simp⟩) ?_
       refine takeC (i:=9) (v:=.pointer (some ⟨bb,off+q*5+2,none⟩)) rfl (by kernel_rfl) (by kernel_rfl) (by kernel_rfl) (by kernel_rfl) (by kernel_rfl) (fun _ _ _ h=>h) (Or.inl ⟨by kernel_rfl,fun V hV=>by obtain ⟨r0,r1,r2,r3,r4,r5,r6,r7,r8,r9⟩:=hV;go_simp⟩) ?_;refine takeC (i:=10) (v:=.int .i64 g2) rfl (by kernel_rfl) (by kernel_rfl) (by kernel_rfl) (by kernel_rfl) (by kernel_rfl) (fun _ _ _ h=>h) (Or.inl ⟨by kernel_rfl,fun V hV=>by obtain ⟨r0,r1,r2,r3,r4,r5,r6,r7,r8,r9⟩:=hV;go_simp⟩) ?_;refine takeC (i:=11) (v:=.slice (some ⟨bb,off,none⟩) n cap) rfl (by kernel_rfl) (by kernel_rfl) (by kernel_rfl) (by kernel_rfl) (by kernel_rfl) (fun _ _ _ h=>h) (Or.inl ⟨by kernel_rfl,fun V hV=>by obtain ⟨r0,r1,r2,r3,r4,r5,r6,r7,r8,r9⟩:=hV;go_simp⟩) ?_
       refine takeC (i:=12) (v:=.int .i64 (k:Int)) rfl (by kernel_rfl) (by kernel_rfl) (by kernel_rfl) (by kernel_rfl) (by kernel_rfl) (fun _ _ _ h=>h) (Or.inl ⟨by kernel_rfl,fun V hV=>by obtain ⟨r0,r1,r2,r3,r4,r5,r6,r7,r8,r9⟩:=hV;go_simp⟩) ?_;refine takeC (i:=13) (v:=.pointer (some ⟨bb,off+k*5,none⟩)) rfl (by kernel_rfl) (by kernel_rfl) (by kernel_rfl) (by kernel_rfl) (by kernel_rfl) (fun _ _ _ h=>h) (Or.inl ⟨by kernel_rfl,fun V hV=>by obtain ⟨r0,r1,r2,r3,r4,r5,r6,r7,r8,r9⟩:=hV;go_simp⟩) ?_;refine takeC (i:=14) (v:=.agg #[.int .i64 e0,.int .i64 e1,.int .i64 e2,.int .i64 e3,.int .i64 e4]) rfl (by kernel_rfl) (by kernel_rfl) (by kernel_rfl) (by kernel_rfl) (by kernel_rfl) (fun _ _ _ h=>h) (Or.inl ⟨by kernel_rfl,fun V hV=>by obtain ⟨r0,r1,r2,r3,r4,r5,r6,r7,r8,r9⟩:=hV;go_simp⟩) ?_
       refine takeC (i:=15) (v:=.slice (some ⟨bb,off,none⟩) n cap) rfl (by kernel_rfl) (by kernel_rfl) (by kernel_rfl) (by kernel_rfl) (by kernel_rfl) (fun _ _ _ h=>h) (Or.inl ⟨by kernel_rfl,fun V hV=>by obtain ⟨r0,r1,r2,r3,r4,r5,r6,r7,r8,r9⟩:=hV;go_simp⟩) ?_;refine takeC (i:=16) (v:=.int .i64 (q:Int)) rfl (by kernel_rfl) (by kernel_rfl) (by kernel_rfl) (by kernel_rfl) (by kernel_rfl) (fun _ _ _ h=>h) (Or.inl ⟨by kernel_rfl,fun V hV=>by obtain ⟨r0,r1,r2,r3,r4,r5,r6,r7,r8,r9⟩:=hV;go_simp⟩) ?_;refine takeC (i:=17) (v:=.pointer (some ⟨bb,off+q*5,none⟩)) rfl (by kernel_rfl) (by kernel_rfl) (by kernel_rfl) (by kernel_rfl) (by kernel_rfl) (fun _ _ _ h=>h) (Or.inl ⟨by kernel_rfl,fun V hV=>by obtain ⟨r0,r1,r2,r3,r4,r5,r6,r7,r8,r9⟩:=hV;go_simp⟩) ?_
       refine takeC (i:=18) (v:=.agg #[.int .i64 g0,.int .i64 g1,.int .i64 g2,.int .i64 g3,.int .i64 g4]) rfl (by kernel_rfl) (by kernel_rfl) (by kernel_rfl) (by kernel_rfl) (by kernel_rfl) (fun _ _ _ h=>h) (Or.inl ⟨by kernel_rfl,fun V hV=>by obtain ⟨r0,r1,r2,r3,r4,r5,r6,r7,r8,r9⟩:=hV;go_simp⟩) ?_;refine consC (i:=19) (by kernel_rfl) (by kernel_rfl) ⟨de0,de1,de2,de3,de4,dg0,dg1,dg2,dg3,dg4⟩ rfl (fun K hK=>?_);go_wp2_with fail
       refine takeC (i:=20) (v:=.agg #[.int .i64 e1,.int .i64 g2,.slice (some ⟨wd.heap.size,0,none⟩) 2 2]) rfl (by kernel_rfl) (by kernel_rfl) (by kernel_rfl) (by kernel_rfl) (by kernel_rfl) (fun _ _ _ h=>h) (Or.inl ⟨by kernel_rfl,fun V hV=>by obtain ⟨r0,r1,r2,r3,r4,r5,r6,r7,r8,r9⟩:=hV;go_simp⟩) ?_;refine consC (i:=21) (by kernel_rfl) (by kernel_rfl) ⟨cell_al _ de0,cell_al _ de1,cell_al _ de2,cell_al _ de3,cell_al _ de4,cell_al _ dg0,cell_al _ dg1,cell_al _ dg2,cell_al _ dg3,cell_al _ dg4⟩ rfl (fun K hK=>?_);go_wp2_with fail
       refine consC (i:=22) (by kernel_rfl) (by kernel_rfl) ⟨cell_al _ (cell_al _ de0),cell_al _ (cell_al _ de1),cell_al _ (cell_al _ de2),cell_al _ (cell_al _ de3),cell_al _ (cell_al _ de4),cell_al _ (cell_al _ dg0),cell_al _ (cell_al _ dg1),cell_al _ (cell_al _ dg2),cell_al _ (cell_al _ dg3),cell_al _ (cell_al _ dg4)⟩ rfl (fun K hK=>?_);refine wpList_append_own_at _ rfl _ _ 107 rfl w.heap.size 113 i0 (.agg #[.int .i64 0,.int .i64 0,.slice none 0 0]) 3 40 Tryz.underlying107 hi hz0 hz1 hz2 rfl (by decide) u5 _ _ rfl ((hrowd.alloc (.cells #[.int .i64 e0,.int .i64 e1,.int .i64 e2,.int .i64 e3,.int .i64 e4,.int .i64 g0,.int .i64 g1,.int .i64 g2,.int .i64 g3,.int .i64 g4] 32)).alloc _) ⟨wd.heap.size+1,0,none⟩ 1 1 [.int .i64 e1,.int .i64 g2,.slice (some ⟨wd.heap.size,0,none⟩) 2 2] rfl rfl ?a1s ?a2s ?a3s ?a4s ?a5s ?_
       case a1s=>intro j u hj;match j,hj with
        | 0,hj=>simp at hj;subst hj;first | (simp [Addr.add];done) | exact cell_new7 (by simp) rfl
        | 1,hj=>simp at hj;subst hj;first | (simp [Addr.add];done) | exact cell_new7 (by simp) rfl
        | 2,hj=>simp at hj;subst hj;first | (simp [Addr.add];done) | exact cell_new7 (by simp) rfl
       case a2s=>intro u hu;simp at hu;rcases hu with rfl | rfl | rfl<;>rfl
       case a3s=>unfold maxLen;omega
       case a4s=>omega
       case a5s=>simp;omega
       intro r3 w3 hown3 hg3 _ hat3;have hs3:=hsd.push hrowd (by decide) [(e0,e1,e2,e3,e4),(g0,g1,g2,g3,g4)] (by simp) (e1) (g2) (.cells #[.int .i64 e1,.int .i64 g2,.slice (some ⟨wd.heap.size,0,none⟩) 2 2] 113) hg3;have B3:Below w.heap.size w w3:=((hbd.alloc sd _).alloc (by simp;omega) _).grown hg3 (by simp;omega) (fun j hj=>(hrowd.lt j hj).1);obtain ⟨fe0,fe1,fe2,fe3,fe4⟩:=HQ.out k hk1.out _ B3;rw [HE.out] at fe0 fe1 fe2 fe3 fe4;simp only at fe0 fe1 fe2 fe3 fe4;obtain ⟨fg0,fg1,fg2,fg3,fg4⟩:=HQ.out q hq1.out _ B3;rw [HG.out] at fg0 fg1 fg2 fg3 fg4;simp only at fg0 fg1 fg2 fg3 fg4;go_wp2_with fail
       refine lastC (by kernel_rfl) (by kernel_rfl) ⟨fe0,fe1,fe2,fe3,fe4,fg0,fg1,fg2,fg3,fg4⟩ (of_decide_eq_true (by kernel_rfl)) ?_;refine any_seqI [23] [_] _ _ _ rfl (by kernel_rfl) ?_;go_wp2_with fail
       refine ⟨⟨q+1,c'+1,M'++[(e1,g2,.slice (some ⟨wd.heap.size,0,none⟩) 2 2)],by omega,by omega,by first | go_num | simp,by show _=_;rw [List.length_append,HLq.out];rfl,by show StB _ _ _;rw [HY.out,← List.cons_append,← List.append_assoc];exact hs3,B3,by rw [recS_snoc];exact hown3⟩,by simp [RowKit.intOf];omega⟩
      ·have HY:Hid (sIn l (e0,e1,e2,e3,e4) (q+1)=sIn l (e0,e1,e2,e3,e4) q):=sIn_no l _ q hq1.out (by rw [HG.out];exact hm)
       by_cases m3:g0=3
       ·have m0:(g0==3)=true:=by rw [m3];rfl
        have m1:(g1==e2)=false:=beq_eq_false_iff_ne.2 (fun hh=>hm ⟨m3,hh⟩);clear hm m3;go_wp2_with fail
        go_quiet (fail)
        go_wp2_with fail
        refine ⟨⟨q+1,c',M',by omega,by omega,by first | go_num | simp,HLq,by show StB _ _ _;rw [HY.out];exact HSq.out.below (below_drewN (Below.refl _ _) _),below_drewN hbq _,hrowq⟩,by simp [RowKit.intOf];omega⟩
       ·have m0:(g0==3)=false:=beq_eq_false_iff_ne.2 m3
        clear hm m3;go_wp2_with fail
        go_quiet (fail)
        go_wp2_with fail
        refine ⟨⟨q+1,c',M',by omega,by omega,by first | go_num | simp,HLq,by show StB _ _ _;rw [HY.out];exact HSq.out.below (below_drewN (Below.refl _ _) _),below_drewN hbq _,hrowq⟩,by simp [RowKit.intOf];omega⟩
     ·obtain rfl:q=n:=by omega
      have jq:¬ (q:Int) < (q:Int):=by omega
      go_wp2_with fail
      refine ⟨⟨k+1,c',M',by omega,by omega,by first | go_num | simp,HLq,by show StB _ _ _;rw [HNx.out,HO.out];exact HSq.out,hbq,hrowq⟩,by simp [RowKit.intOf];omega⟩
  ·obtain rfl:k=n:=by omega
   have j0:¬ (k:Int) < (k:Int):=by omega
   have HEnd:Hid (sTo 2 l k=stepsL 2 l):=by show _=_;rw [← HN.out];exact sTo_all 2 l
   go_wp2_with fail
   go_ret
   have hl:=HL.out;subst hl;exact ⟨_,L',rfl,hbw,hrow,by rw [← HEnd.out];exact HS.out.of⟩
theorem rsteps_any (level:Int) (l:List Ed) (v:Value) (w:World) (hT:IsEds w v l) (hle:l.length≤1000) :
 Calls Tryz.prog 62 #[.int .i64 level,v] w fun e w'=>StRow 113 w (stepsL level l) e w':=by
 by_cases h1:level=1
 ·subst h1;exact rsteps_1 l v w hT hle
 ·by_cases h2:level=2
  ·subst h2;exact rsteps_2 l v w hT hle
  ·exact rsteps_o level h1 h2 l v w hT hle
end Go.Proofs.YthamoeekiglphaaGreatDoor
