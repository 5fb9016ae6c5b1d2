/-
  What taint.At and Outer answer. What taint.bads hands to a loop, whatever is done with it. What taint.First answers. What edges.ofKey gathers: the edges of one
-/
import Derived.Test.YtiihegldhnlleaaGreatCP9Of
import Derived.Test.YtiihegldhnlleaaGreatCP10Read
import Derived.Test.YtiihegldhnlleaaGreatCP11Sh
namespace Go.Proofs.YtiihegldhnlleaaGreat
set_option maxRecDepth 100000
open Go.RowKit
set_option linter.unusedVariables false
attribute [local go_sem] ba_size
set_option maxHeartbeats 4000000 in
theorem pat_any (h:List Ev) (v:Value) (w:World) (hT:IsEvs w v h) (i:Int) :
 Calls Tryz.prog 98 #[v,.int .i64 i] w fun e w'=>e=.returned (badA (atI h i))∧Below w.heap.size w w':=by
 have CC:=fun W hW=>pcounts_any h v W (hT.below (w':=W) hW) i
 have R0:=SBox.new w 25 #[.int .i64 0,.int .i64 0,.int .i64 0]
 have B0:=(Below.refl w.heap.size w).alloc (Nat.le_refl _) (.cells #[.int .i64 0,.int .i64 0,.int .i64 0] 25)
 by_cases hc:countI h i=true
 ·rw [hc] at CC
  have hi0:0≤i∧countsB h i.toNat=true:=by
   unfold countI at hc
   rw [Bool.and_eq_true,decide_eq_true_eq] at hc
   exact hc
  obtain ⟨q,rfl⟩:∃ q:Nat,i=(q:Int):=⟨i.toNat,by omega⟩
  have hcq:countsB h q=true:=by have:=hi0.2;rwa [Int.toNat_natCast] at this
  have hA:atI h (q:Int)=atL h q:=by unfold atI;rw [if_pos (by omega),Int.toNat_natCast]
  rw [hA]
  have hcl:=(counts_iff h q).1 hcq
  have hq1:q < h.length:=hcl.1
  have CO:=fun W hW=>pown_any h v W (hT.below (w':=W) hW) q hq1
  have CF:=fun W hW=>pof_any h v W (hT.below (w':=W) hW) q hq1
  obtain ⟨a,cap,rfl,h1,h2,h3,HC⟩:=hT.reads
  obtain ⟨bb,off,rfl,HQ⟩:=HC.out (by omega)
  have HQ1:Hid (q < h.length):=hq1
  rcases hl:lastN h (ev h q).2.1 (ev h q).2.2.1 q with _ | k
  ·rw [at_ofw h q hcq hl]
   rw [hl] at CO
   simp only [oI] at CO
   obtain ⟨⟨r0',r1',r2'⟩,hr⟩:∃ y,ofwL h q=y:=⟨_,rfl⟩
   rw [hr] at CF ⊢
   obtain ⟨n,hn⟩:∃ n,h.length=n:=⟨_,rfl⟩
   rw [hn] at h1 h3 hq1 CC CO CF ⊢
   clear hr hl hcl hcq hi0 hc hA hT HC hn
   go_enter Tryz.func98,Tryz.ntmps98
   go_wp2_with fail
   refine (CC _ B0).mono ?_
   rintro e w1 ⟨rfl,b1⟩
   have R1:=R0.below b1
   have B1:=bel_trans B0 b1
   go_wp2_with fail
   refine (CO _ B1).mono ?_
   rintro e w2 ⟨rfl,b2⟩
   have R2:=R1.below b2
   have B2:=bel_trans B1 b2
   go_wp2_with fail
   refine (CF _ B2).mono ?_
   rintro e w3 ⟨rfl,b3⟩
   have R3:=R2.below b3
   have B3:=bel_trans B2 b3
   have r0:=R3.cell 0 _ rfl
   have r1:=R3.cell 1 _ rfl
   have r2:=R3.cell 2 _ rfl
   have g0:=R3.frozen 0
   have g1:=R3.frozen 1
   have g2:=R3.frozen 2
   go_wp2_with fail
   generalize hW:World.setCell _ _ _=W
   have RW:SBox W w.heap.size 25 #[.int .i64 r0',.int .i64 r1',.int .i64 r2']:=by rw [← hW];exact SBox.put3 R3 _ _ _
   have BZ:Below w.heap.size w W:=by rw [← hW];exact bel_put3 B3 (Nat.le_refl _) _ _ _
   exact bodyPost_ret (v:=badA (r0',r1',r2')) (results_row1 Tryz.results98 _ _ w.heap.size 25 _ (0,0) _ rfl RW Tryz.underlying25 rfl size_bad) rfl ⟨rfl,BZ⟩
  ·have hkq:=((lastN_some _ _ _ _ _).1 hl).1
   have HK:Hid (k < h.length):=by show k < _;omega
   rw [at_own h q k hcl hl]
   rw [hl] at CO
   simp only [oI] at CO
   have jk:¬ (k:Int) < 0:=by omega
   obtain ⟨⟨x0,x1,x2,x3⟩,hx⟩:∃ x,ev h q=x:=⟨_,rfl⟩
   have HX:Hid (ev h q=(x0,x1,x2,x3)):=hx
   obtain ⟨⟨z0,z1,z2,z3⟩,hz⟩:∃ x,ev h k=x:=⟨_,rfl⟩
   have HZ:Hid (ev h k=(z0,z1,z2,z3)):=hz
   simp only [hx,hz]
   obtain ⟨n,hn⟩:∃ n,h.length=n:=⟨_,rfl⟩
   have hkn:k < n:=by omega
   rw [hn] at h1 h3 hq1 CC CO CF ⊢
   clear hx hz hl hcl hcq hi0 hc hA hT HC hn CF
   by_cases d:z3=x3
   ·rw [if_pos d]
    subst d
    go_enter Tryz.func98,Tryz.ntmps98
    go_wp2_with fail
    refine (CC _ B0).mono ?_
    rintro e w1 ⟨rfl,b1⟩
    have R1:=R0.below b1
    have B1:=bel_trans B0 b1
    go_wp2_with fail
    refine (CO _ B1).mono ?_
    rintro e w2 ⟨rfl,b2⟩
    have R2:=R1.below b2
    have B2:=bel_trans B1 b2
    have c3:=(HQ.out q HQ1.out _ B2).2.2.2
    have k3:=(HQ.out k HK.out _ B2).2.2.2
    rw [HX.out] at c3
    rw [HZ.out] at k3
    simp only at c3 k3
    go_wp2_with fail
    go_quiet (fail)
    have R3:=R2.below (below_drewN (Below.refl _ _) nq)
    have B3:=below_drewN B2 nq
    have r0:=R3.cell 0 _ rfl
    have r1:=R3.cell 1 _ rfl
    have r2:=R3.cell 2 _ rfl
    have g0:=R3.frozen 0
    have g1:=R3.frozen 1
    have g2:=R3.frozen 2
    go_wp2_with fail
    generalize hW:World.setCell _ _ _=W
    have RW:SBox W w.heap.size 25 #[.int .i64 0,.int .i64 0,.int .i64 0]:=by rw [← hW];exact SBox.put3 R3 _ _ _
    have BZ:Below w.heap.size w W:=by rw [← hW];exact bel_put3 B3 (Nat.le_refl _) _ _ _
    exact bodyPost_ret (v:=badA (0,0,0)) (results_row1 Tryz.results98 _ _ w.heap.size 25 _ (0,0) _ rfl RW Tryz.underlying25 rfl size_bad) rfl ⟨rfl,BZ⟩
   ·have e1:(z3 != x3)=true:=bne_iff_ne.2 d
    have e2:(z3==x3)=false:=beq_eq_false_iff_ne.2 d
    have e4:decide (z3=x3)=false:=decide_eq_false d
    rw [if_neg d]
    go_enter Tryz.func98,Tryz.ntmps98
    go_wp2_with fail
    refine (CC _ B0).mono ?_
    rintro e w1 ⟨rfl,b1⟩
    have R1:=R0.below b1
    have B1:=bel_trans B0 b1
    go_wp2_with fail
    refine (CO _ B1).mono ?_
    rintro e w2 ⟨rfl,b2⟩
    have R2:=R1.below b2
    have B2:=bel_trans B1 b2
    have c3:=(HQ.out q HQ1.out _ B2).2.2.2
    have k3:=(HQ.out k HK.out _ B2).2.2.2
    rw [HX.out] at c3
    rw [HZ.out] at k3
    simp only at c3 k3
    go_wp2_with fail
    go_quiet (fail)
    have R3:=R2.below (below_drewN (Below.refl _ _) nq)
    have B3:=below_drewN B2 nq
    have r0:=R3.cell 0 _ rfl
    have r1:=R3.cell 1 _ rfl
    have r2:=R3.cell 2 _ rfl
    have g0:=R3.frozen 0
    have g1:=R3.frozen 1
    have g2:=R3.frozen 2
    go_wp2_with fail
    generalize hW:World.setCell _ _ _=W
    have RW:SBox W w.heap.size 25 #[.int .i64 3,.int .i64 (q:Int),.int .i64 (k:Int)]:=by rw [← hW];exact SBox.put3 R3 _ _ _
    have BZ:Below w.heap.size w W:=by rw [← hW];exact bel_put3 B3 (Nat.le_refl _) _ _ _
    exact bodyPost_ret (v:=badA (3,(q:Int),(k:Int))) (results_row1 Tryz.results98 _ _ w.heap.size 25 _ (0,0) _ rfl RW Tryz.underlying25 rfl size_bad) rfl ⟨rfl,BZ⟩
 ·have hcf:countI h i=false:=by simpa using hc
  rw [hcf] at CC
  have hA:atI h i=(0,0,0):=by
   unfold countI at hcf
   unfold atI
   by_cases h0:0≤i
   ·rw [if_pos h0]
    rw [decide_eq_true h0,Bool.true_and] at hcf
    unfold atL
    rw [if_pos hcf]
   ·rw [if_neg h0]
  rw [hA]
  obtain ⟨a,cap,rfl,h1,h2,h3,HC⟩:=hT.reads
  clear hc hcf hA hT HC
  go_enter Tryz.func98,Tryz.ntmps98
  go_wp2_with fail
  refine (CC _ B0).mono ?_
  rintro e w1 ⟨rfl,b1⟩
  have R1:=R0.below b1
  have B1:=bel_trans B0 b1
  have r0:=R1.cell 0 _ rfl
  have r1:=R1.cell 1 _ rfl
  have r2:=R1.cell 2 _ rfl
  have g0:=R1.frozen 0
  have g1:=R1.frozen 1
  have g2:=R1.frozen 2
  go_wp2_with fail
  generalize hW:World.setCell _ _ _=W
  have RW:SBox W w.heap.size 25 #[.int .i64 0,.int .i64 0,.int .i64 0]:=by rw [← hW];exact SBox.put3 R1 _ _ _
  have BZ:Below w.heap.size w W:=by rw [← hW];exact bel_put3 B1 (Nat.le_refl _) _ _ _
  exact bodyPost_ret (v:=badA (0,0,0)) (results_row1 Tryz.results98 _ _ w.heap.size 25 _ (0,0) _ rfl RW Tryz.underlying25 rfl size_bad) rfl ⟨rfl,BZ⟩
theorem pouter_any (h:List Ev) (v:Value) (w:World) (hT:IsEvs w v h) (i:Int) :
 Calls Tryz.prog 104 #[v,.int .i64 i] w fun e w'=>e=.returned (.bool (outerI h i))∧Below w.heap.size w w':=by
 have CC:=fun W hW=>pcounts_any h v W (hT.below (w':=W) hW) i
 by_cases hc:countI h i=true
 ·rw [hc] at CC
  have hi0:0≤i∧countsB h i.toNat=true:=by
   unfold countI at hc
   rw [Bool.and_eq_true,decide_eq_true_eq] at hc
   exact hc
  obtain ⟨q,rfl⟩:∃ q:Nat,i=(q:Int):=⟨i.toNat,by omega⟩
  have hcq:countsB h q=true:=by have:=hi0.2;rwa [Int.toNat_natCast] at this
  have hq1:q < h.length:=((counts_iff h q).1 hcq).1
  have CO:=fun W hW=>pown_any h v W (hT.below (w':=W) hW) q hq1
  have hA:outerI h (q:Int)=decide (lastN h (ev h q).2.1 (ev h q).2.2.1 q=none):=by unfold outerI outerB;rw [decide_eq_true (by omega),Int.toNat_natCast,hcq];simp
  rw [hA]
  obtain ⟨a,cap,rfl,h1,h2,h3,HC⟩:=hT.reads
  rcases hl:lastN h (ev h q).2.1 (ev h q).2.2.1 q with _ | k
  ·rw [decide_eq_true rfl]
   rw [hl] at CO
   simp only [oI] at CO
   obtain ⟨n,hn⟩:∃ n,h.length=n:=⟨_,rfl⟩
   rw [hn] at h1 h3 hq1 CC CO ⊢
   clear hl hcq hi0 hc hA hT HC hn
   go_enter Tryz.func104,Tryz.ntmps104
   go_wp2_with fail
   refine (CC _ (Below.refl _ _)).mono ?_
   rintro e w1 ⟨rfl,b1⟩
   go_wp2_with fail
   refine (CO _ b1).mono ?_
   rintro e w2 ⟨rfl,b2⟩
   go_wp2_with fail
   go_ret
   exact ⟨rfl,bel_trans b1 b2⟩
  ·rw [decide_eq_false (by simp)]
   rw [hl] at CO
   simp only [oI] at CO
   have jk:¬ (k:Int) < 0:=by omega
   obtain ⟨n,hn⟩:∃ n,h.length=n:=⟨_,rfl⟩
   rw [hn] at h1 h3 hq1 CC CO ⊢
   clear hl hcq hi0 hc hA hT HC hn
   go_enter Tryz.func104,Tryz.ntmps104
   go_wp2_with fail
   refine (CC _ (Below.refl _ _)).mono ?_
   rintro e w1 ⟨rfl,b1⟩
   go_wp2_with fail
   refine (CO _ b1).mono ?_
   rintro e w2 ⟨rfl,b2⟩
   go_wp2_with fail
   go_ret
   exact ⟨rfl,bel_trans b1 b2⟩
 ·have hcf:countI h i=false:=by simpa using hc
  rw [hcf] at CC
  have hA:outerI h i=false:=by
   unfold outerI outerB
   unfold countI at hcf
   rw [← Bool.and_assoc,hcf,Bool.false_and]
  rw [hA]
  obtain ⟨a,cap,rfl,h1,h2,h3,HC⟩:=hT.reads
  clear hc hcf hA hT HC
  go_enter Tryz.func104,Tryz.ntmps104
  go_wp2_with fail
  refine (CC _ (Below.refl _ _)).mono ?_
  rintro e w1 ⟨rfl,b1⟩
  go_wp2_with fail
  go_ret
  exact ⟨rfl,b1⟩
open Go.RowKit Go.Shelf
attribute [local go_sem] Oper.semAt_some
abbrev badsF9 (b:Nat):Value:=.func (.func 97) #[] #[.pointer (some ⟨b,0,none⟩)]
theorem pbads9_any (a:Option Addr) (n cap:Nat) (w:World) :
 Calls Tryz.prog 68 #[.slice a n cap] w fun e w'=>e=.returned (badsF9 w.heap.size)∧w'=w.alloc (.cells #[.slice a n cap] 22):=by
 go_enter Tryz.func68,Tryz.ntmps68
 go_wp2_with fail
 go_ret
 exact ⟨rfl,rfl⟩
def badTo (h:List Ev) (k:Nat):List Bd:=(List.range k).filterMap (badAt h)
theorem badTo_len (h:List Ev) (k:Nat):(badTo h k).length≤k:=by
 have:=List.length_filterMap_le (badAt h) (List.range k)
 rwa [List.length_range] at this
theorem badTo_no (h:List Ev) (k:Nat) (h0:(atL h k).1=0):badTo h (k+1)=badTo h k:=by
 unfold badTo
 rw [bads_next,show badAt h k=none by unfold badAt;rw [if_pos h0]]
 simp
theorem badTo_yes (h:List Ev) (k:Nat) (h0:¬ (atL h k).1=0):badTo h (k+1)=badTo h k++[atL h k]:=by
 unfold badTo
 rw [bads_next,show badAt h k=some (atL h k) by unfold badAt;rw [if_neg h0]]
 rfl
theorem badTo_pre (h:List Ev) (k:Nat) (hk:k≤h.length):badTo h k <+: badsL h:=by
 obtain ⟨r,hr⟩:=bads_pre h h.length k hk
 exact ⟨r,by rw [bads_is,hr];rfl⟩
abbrev badX (x:Bd):Array Value:=#[badA x]
set_option maxHeartbeats 2000000 in
theorem bads9_in (l:Nat) (h:List Ev) (w0:World) (a:Option Addr) (cap:Nat) (hT:IsEvs w0 (.slice a h.length cap) h) (bh k:Nat) (J Jx:List Bd→World→Prop)
 (hJ:∀ pre W W',J pre W→Below W.heap.size W W'→J pre W')
 (hY:∀ pre x W,J pre W→pre.length < h.length→YieldAt Fence.wide (k - 1) Tryz.prog l (badX x) W fun e W'=>(e=.returned (.bool true)∧J (pre++[x]) W'∧KpE w0.heap.size bh W W')∨(e=.returned (.bool false)∧Jx (pre++[x]) W'))
 (W:World) (hW:Below w0.heap.size w0 W) (hbox:Boxed W bh 22 (.slice a h.length cap)) (h0:J [] W) :
 CallsIn Fence.wide k Tryz.prog 97 #[.func (.yield l) #[] #[],.pointer (some ⟨bh,0,none⟩)] W fun e W'=>(∃ v,e=.returned v) ∧
  ((∃ ys,ys=badsL h∧J ys W')∨(∃ pre,pre <+: badsL h∧Jx pre W')):=by
 have hdd:∀ k:Nat,(Fence.wide.depth.isSome=true→1≤k):=fun k h=>by cases h
 have CA:=fun (i:Int) V hV=>pat_any h (.slice a h.length cap) V (hT.below (w':=V) hV) i
 obtain ⟨a',cap',e1,h1,h2,h3,HC⟩:=hT.some_at
 obtain ⟨rfl,rfl⟩:a'=a∧cap'=cap:=by simpa [eq_comm] using e1
 clear e1 hT HC
 have c0:=hbox.cell
 refine callsIn_of_wp Tryz.func97 rfl trivial ?_ rfl
 simp only [Tryz.ntmps97,List.size_toArray,List.length_cons,List.length_nil,Nat.reduceAdd,Nat.reduceSub,Array.replicate_succ,Array.replicate_zero,List.push_toArray,List.append_toArray,List.nil_append,List.cons_append]
 gi_wp2
 gi_loopw [7] (fun i wr=>∃ k:Nat,k≤h.length∧i=.int .i64 k∧J (badTo h k) wr∧Below w0.heap.size w0 wr∧Boxed wr bh 22 (.slice a' h.length cap')) (fun i _=>h.length - (intOf i).toNat)
 case atStart=>exact ⟨0,Nat.zero_le _,rfl,h0,hW,hbox⟩
 case round =>
  obtain ⟨k',hk,rfl,hJ0,hB,hbx⟩:=hrel
  have c1:=hbx.cell
  by_cases hlt:k' < h.length
  ·have hA:atI h (k':Int)=atL h k':=by unfold atI;rw [if_pos (by omega),Int.toNat_natCast]
   have C:=CA (k':Int) wr hB
   rw [hA] at C
   have i0:(k':Int) < (h.length:Int):=by omega
   obtain ⟨x,hx⟩:∃ x,atL h k'=x:=⟨_,rfl⟩
   have HX:Hid (atL h k'=x):=hx
   rw [hx] at C
   obtain ⟨x0,x1,x2⟩:=x
   clear hA hx
   by_cases hz:x0=0
   ·have HZ:Hid (x0=0∧x1=0∧x2=0):=by
     have:=at_zero h k' (by rw [HX.out];exact hz)
     rw [HX.out] at this
     simp only [Prod.mk.injEq] at this
     exact this
    obtain ⟨rfl,rfl,rfl⟩:=HZ.out
    clear hz HZ
    gi_wp2
    refine ⟨trivial,hdd _,?_⟩
    refine (callsIn_wide.2 C).mono ?_
    rintro e W1 ⟨rfl,b1⟩
    have X1:=SBox.new W1 25 #[.int .i64 0,.int .i64 0,.int .i64 0]
    have y0:=X1.cell 0 _ rfl
    have y1:=X1.cell 1 _ rfl
    have y2:=X1.cell 2 _ rfl
    have b2:=b1.alloc b1.size (.cells #[.int .i64 0,.int .i64 0,.int .i64 0] 25)
    have HJ1:Hid (J (badTo h (k'+1)) (W1.alloc (.cells #[.int .i64 0,.int .i64 0,.int .i64 0] 25))):=by
     show J _ _
     rw [badTo_no h k' (by rw [HX.out])]
     exact hJ _ _ _ hJ0 b2
    have HB1:=hB.trans (b2.mono hB.size)
    have hbx1:=boxed_below7 hbx b2
    gi_wp2
    refine ⟨fun f e=>(by cases e),?_⟩
    gi_wp2
    go_roundw
    case rel=>exact ⟨k'+1,by omega,by first | go_num | simp,HJ1.out,HB1,hbx1⟩
    case measure=>simp [intOf];omega
   ·have hz1:(x0==0)=false:=beq_eq_false_iff_ne.2 hz
    gi_wp2
    refine ⟨trivial,hdd _,?_⟩
    refine (callsIn_wide.2 C).mono ?_
    rintro e W1 ⟨rfl,b1⟩
    have X1:=SBox.new W1 25 #[.int .i64 x0,.int .i64 x1,.int .i64 x2]
    have y0:=X1.cell 0 _ rfl
    have y1:=X1.cell 1 _ rfl
    have y2:=X1.cell 2 _ rfl
    have b2:=b1.alloc b1.size (.cells #[.int .i64 x0,.int .i64 x1,.int .i64 x2] 25)
    have HB1:=hB.trans (b2.mono hB.size)
    have hbx1:=boxed_below7 hbx b2
    have hR0:=hY _ (x0,x1,x2) _ (hJ _ _ _ hJ0 b2) (by have:=badTo_len h k';omega)
    rw [← HX.out,← badTo_yes h k' (by rw [HX.out];exact hz),HX.out] at hR0
    obtain ⟨fn,tmps,assign,body,hy,hR⟩:=hR0
    simp only [badX,badA] at hy
    clear hz
    gi_wp2
    (try refine ⟨hdd _,?_⟩)
    refine hR.mono ?_
    rintro e W3 (⟨rfl,hJ3,hk3⟩ | ⟨rfl,hJx3⟩)
    ·have hbx3:Boxed W3 bh 22 (.slice a' h.length cap'):=hk3.2.trans hbx1
     gi_wp2
     go_roundw
     case rel=>exact ⟨k'+1,by omega,by first | go_num | simp,hJ3,HB1.trans hk3.1,hbx3⟩
     case measure=>simp [intOf];omega
    ·gi_wp2
     refine bodyPost_ret (results_none rfl _ _ _) rfl ?_
     exact ⟨⟨_,rfl⟩,.inr ⟨_,badTo_pre h (k'+1) (by omega),hJx3⟩⟩
  ·obtain rfl:k'=h.length:=by omega
   have hE:badTo h h.length=badsL h:=rfl
   rw [hE] at hJ0
   clear hE
   gi_wp2
   go_end0
   exact ⟨⟨_,rfl⟩,.inl ⟨_,rfl,hJ0⟩⟩
theorem bads9_stops (h:List Ev) (w0:World) (a:Option Addr) (cap:Nat) (hT:IsEvs w0 (.slice a h.length cap) h) (bh k:Nat) (w:World) (hW:Below w0.heap.size w0 w) (hbox:Boxed w bh 22 (.slice a h.length cap)) :
 SeqStopsK Fence.wide k Tryz.prog 97 #[.pointer (some ⟨bh,0,none⟩)] (fun x:Bd=>badX x) (KpE w0.heap.size bh) (fun ys=>ys=badsL h) (fun pre=>pre <+: badsL h) h.length w :=
 fun l J Jx W hb hJ _ hY h0=>bads9_in l h w0 a cap hT bh k J Jx (fun pre V V' hj hbb=>hJ pre V V' none hj (grown_below8 none hbb) (fun r e=>by cases e)) hY W (hW.trans (hb.mono hW.size)) (boxed_below7 hbox hb) h0
end Go.Proofs.YtiihegldhnlleaaGreat
namespace Go.Proofs.YtiihegldhnlleaaGreat
set_option maxRecDepth 100000
open Go.RowKit Go.Shelf
set_option linter.unusedVariables false
attribute [local go_sem] Oper.semAt_some ba_size
theorem results_row_cell {P:Program} {fn:Func} {p q:Tmp} {ty t2:TypeId} (h:fn.results=#[.cell p ty,.cell q t2]) (tmps:Array Value) (w:World) (g:Nat) (t:TypeId) (cs:Array Value) (fr:Nat × Nat) (d:TypeDesc)
 (hp:tmps.getD p undef=.pointer (some ⟨g,0,none⟩)) (hg:w.heap[g]?=some (.cells cs t fr))
 (hu:P.underlying ty=some d) (hd:(match d with | .struct _ | .array _ _=>true | _=>false)=true) (hi:(P.info? ty).map (·.size)=some cs.size)
 (v:Value) (hv:((asAddr (tmps.getD q undef)).run P w).andThen (fun a w₁=>((loadVar t2 a).run P w₁))=Result.ok v w) :
 (results fn tmps).run P w=.ok (.tuple #[.agg cs,v]) w:=by
 have hp':tmps[p]?.getD undef=.pointer (some ⟨g,0,none⟩):=by simpa using hp
 have hv':((asAddr (tmps[q]?.getD undef)).run P w).andThen (fun a w₁=>((loadVar t2 a).run P w₁))=Result.ok v w:=by simpa using hv
 cases hq:(asAddr (tmps[q]?.getD undef)).run P w with
 | ok b w2 =>
   rw [hq] at hv'
   simp only [Result.andThen] at hv'
   simp [results,h,hp',asAddr,run_loadVar_row w g t ty cs fr d hg hu hd hi]
   simp only [asAddr] at hq
   simp [hq,hv']
 | _=>rw [hq] at hv';simp [Result.andThen] at hv'
structure TSt (w:World) (x:Bd) (th:Bool) (sl:Value) (W:World):Prop where
 below:Below w.heap.size w W
 size:w.heap.size+1+1+1≤W.heap.size
 r1:SBox W (w.heap.size) 25 #[.int .i64 x.1,.int .i64 x.2.1,.int .i64 x.2.2]
 r2:Boxed W (w.heap.size+1) 4 (.bool th)
 be:Boxed W (w.heap.size+1+1) 22 (sl)
theorem TSt.bel {w:World} {x:Bd} {th:Bool} {sl:Value} {W W':World} (h:TSt w x th sl W) (hb:Below (w.heap.size+1+1+1) W W'):TSt w x th sl W' :=
 ⟨h.below.trans (hb.mono (by omega)),Nat.le_trans h.size hb.size,sbox_bel h.r1 hb (by omega),boxed_bel h.r2 hb (by omega),boxed_bel h.be hb (by omega)⟩
theorem TSt.put {w:World} {x:Bd} {th:Bool} {sl:Value} {W:World} (h:TSt w x th sl W) (y:Bd) (b:Bool):TSt w y b sl ((((W.setCell ⟨w.heap.size,0,none⟩ (.int .i64 y.1)).setCell ⟨w.heap.size,1,none⟩ (.int .i64 y.2.1)).setCell ⟨w.heap.size,2,none⟩ (.int .i64 y.2.2)).setCell ⟨w.heap.size+1,0,none⟩ (.bool b)):=by
 have o:∀ c,c≠w.heap.size→c≠w.heap.size+1→((((W.setCell ⟨w.heap.size,0,none⟩ (.int .i64 y.1)).setCell ⟨w.heap.size,1,none⟩ (.int .i64 y.2.1)).setCell ⟨w.heap.size,2,none⟩ (.int .i64 y.2.2)).setCell ⟨w.heap.size+1,0,none⟩ (.bool b)).heap[c]?=W.heap[c]?:=fun c h3 h4=>by
  rw [Below.heap_setCell _ _ _ c h4,Below.heap_setCell _ _ _ c h3,Below.heap_setCell _ _ _ c h3,Below.heap_setCell _ _ _ c h3]
 have h4:Boxed (((W.setCell ⟨w.heap.size,0,none⟩ (.int .i64 y.1)).setCell ⟨w.heap.size,1,none⟩ (.int .i64 y.2.1)).setCell ⟨w.heap.size,2,none⟩ (.int .i64 y.2.2)) (w.heap.size+1) 4 (.bool th):=by
  show _=_
  rw [Below.heap_setCell _ _ _ _ (by simp),Below.heap_setCell _ _ _ _ (by simp),Below.heap_setCell _ _ _ _ (by simp)]
  exact h.r2
 exact ⟨(bel_put3 h.below (Nat.le_refl _) _ _ _).setCell (p:=⟨w.heap.size+1,0,none⟩) (by simp) _,by simp;exact h.size,(h.r1.put3 (.int .i64 y.1) (.int .i64 y.2.1) (.int .i64 y.2.2)).other (w.heap.size+1) 0 (.bool b) (by omega),h4.set _,(o _ (by omega) (by omega)).trans h.be⟩
def TInv (w:World) (sl:Value) (pre:List Bd) (W:World):Prop:=pre=[]∧TSt w (0,0,0) false sl W
def TOut (w:World) (sl:Value) (c:Code) (pre:List Bd) (W:World):Prop:=c=.ret∧∃ x,pre=[x]∧TSt w x true sl W
theorem first_pre (h:List Ev) (x:Bd) (hp:[x] <+: badsL h):firstP h=(x,true):=by
 obtain ⟨r,hr⟩:=hp
 unfold firstP
 rw [← hr]
 rfl
set_option maxHeartbeats 2000000 in
theorem pfirst9_any (h:List Ev) (v:Value) (w:World) (hT:IsEvs w v h) :
 Calls Tryz.prog 47 #[v] w fun e w'=>e=.returned (.tuple #[badA (firstP h).1,.bool (firstP h).2])∧Below w.heap.size w w':=by
 have hT0:=hT
 obtain ⟨a,cap,rfl,h1,h2,h3,HC⟩:=hT.some_at
 clear HC hT
 refine (callsIn_wide (n:=3)).1 ?_
 refine callsIn_of_wp_marks Tryz.func47 rfl trivial ?_ rfl
 simp only [Tryz.ntmps47,List.size_toArray,List.length_cons,List.length_nil,Nat.reduceAdd,Nat.reduceSub,Array.replicate_succ,Array.replicate_zero,List.push_toArray,List.append_toArray,List.nil_append,List.cons_append]
 gi_wp2_with ((try refine ⟨trivial,?_⟩);gi_at_call 68;refine (callsIn_wide.2 (pbads9_any _ _ _ _)).mono ?_;rintro e w2 ⟨rfl,rfl⟩)
 have hS0:TSt w (0,0,0) false (.slice a h.length cap) (((w.alloc (.cells #[.int .i64 0,.int .i64 0,.int .i64 0] 25)).alloc (.cells #[.bool false] 4)).alloc (.cells #[.slice a h.length cap] 22)):=by
  have b0:=(((SBox.new w 25 #[.int .i64 0,.int .i64 0,.int .i64 0]).alloc (.cells #[.bool false] 4)).alloc (.cells #[.slice a h.length cap] 22))
  have b1:=((Boxed.new (w.alloc (.cells #[.int .i64 0,.int .i64 0,.int .i64 0] 25)) 4 (.bool false)).alloc (.cells #[.slice a h.length cap] 22))
  have b2:=(Boxed.new ((w.alloc (.cells #[.int .i64 0,.int .i64 0,.int .i64 0] 25)).alloc (.cells #[.bool false] 4)) 22 (.slice a h.length cap))
  (try simp only [World.size_alloc] at b0 b1 b2)
  exact ⟨((((Below.refl _ w).alloc (by first | exact Nat.le_refl _ | (simp only [World.size_alloc];omega)) _).alloc (by first | exact Nat.le_refl _ | (simp only [World.size_alloc];omega)) _).alloc (by first | exact Nat.le_refl _ | (simp only [World.size_alloc];omega)) _),(by simp),b0,b1,b2⟩
 obtain ⟨W0,hW0⟩:∃ W0,(((w.alloc (.cells #[.int .i64 0,.int .i64 0,.int .i64 0] 25)).alloc (.cells #[.bool false] 4)).alloc (.cells #[.slice a h.length cap] 22))=W0:=⟨_,rfl⟩
 have sW0:W0.heap.size=w.heap.size+1+1+1:=by rw [← hW0];simp
 change Code.wpIn _ _ _ _ _ _ (((w.alloc (.cells #[.int .i64 0,.int .i64 0,.int .i64 0] 25)).alloc (.cells #[.bool false] 4)).alloc (.cells #[.slice a h.length cap] 22))
 rw [hW0] at hS0 ⊢
 clear hW0
 (try refine wpIn_block ?_)
 refine wpIn_rangeFunc_ownH rfl (by omega) (gf:=97) (lb:=#[.pointer (some ⟨w.heap.size+1+1,0,none⟩)]) rfl trivial (enters_of Tryz.func97 (by kernel_rfl) rfl)
  (bads9_stops h w a cap hT0 (w.heap.size+1+1) (3 - 1) W0 hS0.below hS0.be) (fun h k=>kpE_t h k) (kpE_b (by omega) (by omega)) (Below.refl _ _) (fun _=>rfl)
  (TInv w (.slice a h.length cap)) (TOut w (.slice a h.length cap))
  (ownFrom_of_below (fun _ W ⟨_,h1⟩=>by rw [sW0];exact h1.size) (fun _ W W' ⟨e,h1⟩ hb=>⟨e,h1.bel (by rw [sW0] at hb;exact hb)⟩))
  (fun c=>ownFrom_of_below (fun _ W ⟨_,x,_,h2⟩=>by rw [sW0];exact h2.size) (fun _ W W' ⟨h1,x,h2,h3⟩ hb=>⟨h1,x,h2,h3.bel (by rw [sW0] at hb;exact hb)⟩))
  ⟨rfl,hS0⟩
  (fun x a' W=>∃ Bx,w.heap.size+1+1 < Bx∧SBox W Bx 25 #[.int .i64 x.1,.int .i64 x.2.1,.int .i64 x.2.2]∧a'={ tmps:=#[.slice a h.length cap,undef,.pointer (some ⟨w.heap.size,0,none⟩),.pointer (some ⟨w.heap.size+1,0,none⟩),.pointer (some ⟨Bx,0,none⟩),.slice a h.length cap,badsF9 (w.heap.size+1+1),badA x,undef,undef],defers:=[] })
  (fun x a' _ A B row hs hg hr=>by
   obtain ⟨Bx,h1,h2,h4⟩:=hs
   exact ⟨Bx,h1,block_kept h2 hg (fun r e=>(hr r e).2),h4⟩)
  ?assign ?body ?done ?stop
 case assign =>
  rintro l pre x W K ⟨hp,hS⟩ hK
  have hsz:=hS.size
  gi_wp2
  refine hK _ _ ((KeepsOthers.alloc _ _).from _) ⟨(Below.refl _ W).alloc (by omega) _,Below.heap_alloc W _ _ (by omega)⟩ ⟨hp,hS.bel ((Below.refl _ W).alloc hsz _)⟩ ⟨W.heap.size,by omega,SBox.new W _ _,rfl⟩
 case body =>
  rintro l pre x a' W hl hrec ⟨rfl,hS⟩ ⟨Bx,hBx,hblk,rfl⟩ hlt
  clear sW0 hS0 hl hrec
  have hsz:=hS.size
  obtain ⟨x0,x1,x2⟩:=x
  have q0:=hblk.cell 0 _ rfl
  have q1:=hblk.cell 1 _ rfl
  have q2:=hblk.cell 2 _ rfl
  have c0:=hS.r1.cell 0 _ rfl
  have c1:=hS.r1.cell 1 _ rfl
  have c2:=hS.r1.cell 2 _ rfl
  have g0:=hS.r1.frozen 0
  have g1:=hS.r1.frozen 1
  have g2:=hS.r1.frozen 2
  have k0:=hS.r2.cell
  have k1:=hS.r2.frozen
  have HF:Hid (KeepsFrom W0.heap.size W ((((W.setCell ⟨w.heap.size,0,none⟩ (.int .i64 x0)).setCell ⟨w.heap.size,1,none⟩ (.int .i64 x1)).setCell ⟨w.heap.size,2,none⟩ (.int .i64 x2)).setCell ⟨w.heap.size+1,0,none⟩ (.bool true))∧TOut w (.slice a h.length cap) .ret ([]++[(x0,x1,x2)]) ((((W.setCell ⟨w.heap.size,0,none⟩ (.int .i64 x0)).setCell ⟨w.heap.size,1,none⟩ (.int .i64 x1)).setCell ⟨w.heap.size,2,none⟩ (.int .i64 x2)).setCell ⟨w.heap.size+1,0,none⟩ (.bool true))) :=
   ⟨((((KeepsOthers.setCell _ _ _).trans (KeepsOthers.setCell _ _ _)).trans (KeepsOthers.setCell _ _ _)).trans (KeepsOthers.setCell _ _ _)).from _,rfl,(x0,x1,x2),rfl,hS.put (x0,x1,x2) true⟩
  simp only at q0 q1 q2
  clear hS hblk
  gi_wp2
  exact HF.out
 case done =>
  rintro D ys W hD hys ⟨rfl,hS⟩ hK
  have HE:Hid (firstP h=((0,0,0),false)):=by show _=_;unfold firstP;rw [← hys]
  have HD:Hid (w.heap.size+1+1+1≤D):=by rw [sW0] at hD;exact hD
  clear sW0 hS0 hD hys
  have c0:=hS.r1.cell 0 _ rfl
  have c1:=hS.r1.cell 1 _ rfl
  have c2:=hS.r1.cell 2 _ rfl
  have g0:=hS.r1.frozen 0
  have g1:=hS.r1.frozen 1
  have g2:=hS.r1.frozen 2
  have k0:=hS.r2.cell
  have k1:=hS.r2.frozen
  have hS2:=hS.put (0,0,0) false
  have HS2:=Lib.hid hS2
  have HK:Hid (((((W.setCell ⟨w.heap.size,0,none⟩ (.int .i64 0)).setCell ⟨w.heap.size,1,none⟩ (.int .i64 0)).setCell ⟨w.heap.size,2,none⟩ (.int .i64 0)).setCell ⟨w.heap.size+1,0,none⟩ (.bool false)).heap[D]?=some (.deferred (some []))):=((((KeepsOthers.setCell W _ _).trans (KeepsOthers.setCell _ _ _)).trans (KeepsOthers.setCell _ _ _)).trans (KeepsOthers.setCell _ _ _)).same D _ hK rfl
  clear hS2
  gi_wp2
  have hK':=HK.out
  have hS2:=HS2.out
  refine ⟨by simp,.inl ⟨_,_,rfl,run_takeDeferred hK',?_⟩⟩
  have d1:=cell_kept hS2.r2.cell (grownBy_putObj' _ D (.deferred none)) (fun r e=>by cases e;exact ⟨_,hK',rfl⟩)
  refine ⟨.tuple #[badA (0,0,0),.bool false],results_row_cell Tryz.results47 _ _ w.heap.size 25 _ (0,0) _ rfl (block_kept hS2.r1 (grownBy_putObj' _ D (.deferred none)) (fun r e=>by cases e;exact ⟨_,hK',rfl⟩)) Tryz.underlying25 rfl size_bad _ (by simp [go_sem,d1]),by rw [HE.out],hS2.below.trans (belowK_b (w:=w) (Nat.le_refl _) _ D _ _ (by have:=HD.out;omega) hK' rfl rfl)⟩
 case stop =>
  rintro D c pre W hD hSp ⟨rfl,x,rfl,hS⟩ hK
  have HE:Hid (firstP h=(x,true)):=first_pre h x hSp
  have HD:Hid (w.heap.size+1+1+1≤D):=by rw [sW0] at hD;exact hD
  clear sW0 hS0 hD hSp
  gi_wp2
  refine ⟨by simp,.inl ⟨_,_,rfl,run_takeDeferred hK,?_⟩⟩
  have d1:=cell_kept hS.r2.cell (grownBy_putObj' _ D (.deferred none)) (fun r e=>by cases e;exact ⟨_,hK,rfl⟩)
  refine ⟨.tuple #[badA x,.bool true],results_row_cell Tryz.results47 _ _ w.heap.size 25 _ (0,0) _ rfl (block_kept hS.r1 (grownBy_putObj' _ D (.deferred none)) (fun r e=>by cases e;exact ⟨_,hK,rfl⟩)) Tryz.underlying25 rfl size_bad _ (by simp [go_sem,d1]),by rw [HE.out],hS.below.trans (belowK_b (w:=w) (Nat.le_refl _) _ D _ _ (by have:=HD.out;omega) hK rfl rfl)⟩
end Go.Proofs.YtiihegldhnlleaaGreat
namespace Go.Proofs.YtiihegldhnlleaaGreat
set_option maxRecDepth 100000
open Go.RowKit Go.Maps
set_option linter.unusedVariables false
attribute [local go_sem] ba_size
theorem g_write (h:List Ev) (V:List Nat) (k:Nat):gEd h 1 (vAt V k) (vAt V (k+1))=(wEdge h V k).toList:=by
 unfold gEd wEdge tx
 by_cases e:(ev h (vAt V k)).2.1=(ev h (vAt V (k+1))).2.1
 ·rw [if_pos e,if_pos e];rfl
 ·rw [if_neg e,if_neg e];rfl
set_option maxHeartbeats 4000000 in
theorem pofkey_any (h:List Ev) (w:World) (a:Option Addr) (cap:Nat) (hT:IsEvs w (.slice a h.length cap) h) (hG:∀ x∈h,goodE x) (hl:h.length≤300) (v:Value) (L:List Ed) (W:World) (hS:GSt w (.slice a h.length cap) v L W) (key:List UInt8) (hL:L.length≤800000) :
 Calls Tryz.prog 74 #[.slice a h.length cap,.string ⟨key.toArray⟩,gatF w] W fun e W'=>GRes w (.slice a h.length cap) W (L++keyEdges h key) e W':=by
 have CV:=pvers8_any h (.slice a h.length cap) W key (hT.below hS.below) hG hl
 have CG:=fun (k:Int) (p q:Nat) hp hq L' hL' v' W' hS'=>pgather_any h w a cap hT v' L' W' hS' k p q hp hq hL'
 have CO:=fun (k:Nat) W' (hW':Below w.heap.size w W')=>pouter_any h (.slice a h.length cap) W' (hT.below hW') (k:Int)
 have CR:=fun (i:Nat) hi V' vs' Bv hV' hVl v' L' W' hS' hvs' hL'=>pofread_any h w a cap hT v' L' W' hS' vs' V' Bv hvs' hV' hVl i hi hL'
 have hvl:=vers_len h key
 have hvt:=vers_lt h key
 rw [keyEdges_is]
 obtain ⟨V,hVe⟩:∃ V,versL h key=V:=⟨_,rfl⟩
 rw [hVe] at CV hvl hvt ⊢
 have HVT:Hid (∀ y∈V,y < h.length):=hvt
 obtain ⟨a',cap',e1,h1,h2,h3,HC⟩:=hT.reads
 obtain ⟨rfl,rfl⟩:a'=a∧cap'=cap:=by simpa [eq_comm] using e1
 obtain ⟨n,hn⟩:∃ n,V.length=n:=⟨_,rfl⟩
 have HN:Hid (V.length=n):=hn
 have HVV:Hid (∀ m,m < n→vAt V m < h.length):=fun m hm=>hvt _ (vAt_mem V m (by omega))
 obtain ⟨nh,hnh⟩:∃ nh,h.length=nh:=⟨_,rfl⟩
 clear hVe hvt e1 hT hG
 rw [hn] at hvl ⊢
 simp only [hnh] at *
 clear hn hnh
 go_enter Tryz.func74,Tryz.ntmps74
 go_wp2_with fail
 refine CV.mono ?_
 rintro e1 w1 ⟨vs,rfl,b1,hv1⟩
 rw [List.length_map,HN.out] at hv1
 have hS1:=hS.bel b1
 have F1:=FrG.of_below b1
 clear CV hS
 obtain ⟨adv,cv,rfl⟩:=own_shape hv1
 have jwn:IntKind.i64.wrap ((n:Int) - 1)=(n:Int) - 1:=by rw [IntKind.wrap_i64];omega
 go_wp2_with fail
 go_loopw [15] (fun i wr=>∃ (k:Nat) (v':Value),k≤n - 1∧i=.int .i64 k∧FrG w1 wr∧GSt w (.slice a' nh cap') v' (L++wTo h V k) wr) (fun i _=>n - (intOf i).toNat)
 case atStart=>exact ⟨0,v,Nat.zero_le _,rfl,FrG.refl _,by rw [show wTo h V 0=[] from rfl,List.append_nil];exact hS1⟩
 case round =>
  obtain ⟨k,v',hk,rfl,FK,hSk⟩:=hrel
  have hvk:=FK.owns hv1 (by decide) (by decide)
  by_cases hk2:k+1 < n
  ·have j0:(k:Int) < (n:Int) - 1:=by omega
   obtain ⟨g,cc,e,k1,k2⟩:=own_some hvk (by omega)
   cases e
   have jk:(k:Int) < (n:Int):=by omega
   have jk1:(k:Int)+1 < (n:Int):=by omega
   have jk0:¬ (k:Int)+1 < 0:=by omega
   have jw:IntKind.i64.wrap ((k:Int)+1)=(k:Int)+1:=by rw [IntKind.wrap_i64];omega
   have jt:((k:Int)+1).toNat=k+1:=by omega
   have HX:Hid (wTo h V (k+1)=wTo h V k++gEd h 1 (vAt V k) (vAt V (k+1))):=by show _=_;rw [wTo_next,g_write]
   have hwl:=wTo_len h V k
   go_wp2_with fail
   refine wp_region_any (by kernel_rfl) ?_
   change wpAny _ _ _ _ _ _ _ (World.drew _)
   generalize hwd:World.drew _=wd
   have bd:Below wr.heap.size wr wd:=by rw [← hwd];exact (Below.refl _ _).drew
   have hSd:=hSk.bel bd
   have hvd:=owns_below hvk bd
   have k0:=ver_cell HN.out hvd (by omega:k < n)
   have k9:=ver_cell HN.out hvd hk2
   clear hwd
   refine any_of_C (C:=fun U=>U.cell? ⟨g,k,none⟩=some (.int .i64 (vAt V k:Int))∧U.cell? ⟨g,k+1,none⟩=some (.int .i64 (vAt V (k+1):Int))) 10 _ _ _ _ ?_
   refine takeCC [10] (i:=0) (v:=gatF w) rfl (by kernel_rfl) (by kernel_rfl) (by kernel_rfl) (by kernel_rfl) (by kernel_rfl) (by kernel_rfl) (fun _ _ _ h=>h) (Or.inl ⟨by kernel_rfl,fun U hU=>by obtain ⟨r0,r1⟩:=hU;go_simp⟩) ?_
   refine takeCC [3,4,10] (i:=1) (v:=.slice (some ⟨g,0,none⟩) n cv) rfl (by kernel_rfl) (by kernel_rfl) (by kernel_rfl) (by kernel_rfl) (by kernel_rfl) (by kernel_rfl) (fun _ _ _ h=>h) (Or.inl ⟨by kernel_rfl,fun U hU=>by obtain ⟨r0,r1⟩:=hU;go_simp⟩) ?_
   refine takeCC [3,4,10] (i:=2) (v:=.int .i64 (k:Int)) rfl (by kernel_rfl) (by kernel_rfl) (by kernel_rfl) (by kernel_rfl) (by kernel_rfl) (by kernel_rfl) (fun _ _ _ h=>h) (Or.inl ⟨by kernel_rfl,fun U hU=>by obtain ⟨r0,r1⟩:=hU;go_simp⟩) ?_
   refine takeCC [4,10] (i:=3) (v:=.pointer (some ⟨g,k,none⟩)) rfl (by kernel_rfl) (by kernel_rfl) (by kernel_rfl) (by kernel_rfl) (by kernel_rfl) (by kernel_rfl) (fun _ _ _ h=>h) (Or.inl ⟨by kernel_rfl,fun U hU=>by obtain ⟨r0,r1⟩:=hU;go_simp⟩) ?_
   refine takeCC [10] (i:=4) (v:=.int .i64 (vAt V k:Int)) rfl (by kernel_rfl) (by kernel_rfl) (by kernel_rfl) (by kernel_rfl) (by kernel_rfl) (by kernel_rfl) (fun _ _ _ h=>h) (Or.inl ⟨by kernel_rfl,fun U hU=>by obtain ⟨r0,r1⟩:=hU;go_simp⟩) ?_
   refine takeCC [8,9,10] (i:=5) (v:=.slice (some ⟨g,0,none⟩) n cv) rfl (by kernel_rfl) (by kernel_rfl) (by kernel_rfl) (by kernel_rfl) (by kernel_rfl) (by kernel_rfl) (fun _ _ _ h=>h) (Or.inl ⟨by kernel_rfl,fun U hU=>by obtain ⟨r0,r1⟩:=hU;go_simp⟩) ?_
   refine takeCC [7,8,9,10] (i:=6) (v:=.int .i64 (k:Int)) rfl (by kernel_rfl) (by kernel_rfl) (by kernel_rfl) (by kernel_rfl) (by kernel_rfl) (by kernel_rfl) (fun _ _ _ h=>h) (Or.inl ⟨by kernel_rfl,fun U hU=>by obtain ⟨r0,r1⟩:=hU;go_simp⟩) ?_
   refine takeCC [8,9,10] (i:=7) (v:=.int .i64 ((k:Int)+1)) rfl (by kernel_rfl) (by kernel_rfl) (by kernel_rfl) (by kernel_rfl) (by kernel_rfl) (by kernel_rfl) (fun _ _ _ h=>h) (Or.inl ⟨by kernel_rfl,fun U hU=>by obtain ⟨r0,r1⟩:=hU;go_simp⟩) ?_
   refine takeCC [9,10] (i:=8) (v:=.pointer (some ⟨g,k+1,none⟩)) rfl (by kernel_rfl) (by kernel_rfl) (by kernel_rfl) (by kernel_rfl) (by kernel_rfl) (by kernel_rfl) (fun _ _ _ h=>h) (Or.inl ⟨by kernel_rfl,fun U hU=>by obtain ⟨r0,r1⟩:=hU;go_simp⟩) ?_
   refine takeCC [10] (i:=9) (v:=.int .i64 (vAt V (k+1):Int)) rfl (by kernel_rfl) (by kernel_rfl) (by kernel_rfl) (by kernel_rfl) (by kernel_rfl) (by kernel_rfl) (fun _ _ _ h=>h) (Or.inl ⟨by kernel_rfl,fun U hU=>by obtain ⟨r0,r1⟩:=hU;go_simp⟩) ?_
   refine lastC (by kernel_rfl) (by kernel_rfl) ⟨k0,k9⟩ (of_decide_eq_true (by kernel_rfl)) ?_
   refine any_seqI [10] [_] _ _ _ rfl (by kernel_rfl) ?_
   go_wp2_with fail
   refine (CG 1 (vAt V k) (vAt V (k+1)) (HVV.out k (by omega)) (HVV.out (k+1) hk2) _ (by rw [List.length_append];omega) _ _ hSd).mono ?_
   rintro e4 w4 ⟨rfl,fr4,v4,hS4⟩
   go_wp2_with fail
   refine ⟨⟨k+1,v4,by omega,by first | go_num | simp,FK.trans ((FrG.of_below bd).trans fr4),by rw [HX.out,← List.append_assoc];exact hS4⟩,by simp [intOf];omega⟩
  ·have j0:¬ (k:Int) < (n:Int) - 1:=by omega
   obtain rfl:k=n - 1:=by omega
   have HB:Hid (Below w.heap.size w wr):=hSk.below
   have hwl:=wTo_len h V (n - 1)
   obtain ⟨w2,rfl⟩:∃ w2,w2=wr:=⟨_,rfl⟩
   obtain ⟨L2,hL2⟩:∃ L2,L++wTo h V (n - 1)=L2:=⟨_,rfl⟩
   have HL2:Hid (L++wTo h V (n - 1)=L2):=hL2
   have hL2l:L2.length≤800300:=by rw [← hL2,List.length_append];omega
   rw [hL2] at hSk
   clear hL2 hS1
   go_wp2_with fail
   go_loopw [32] (fun i wr=>∃ (k:Nat) (v':Value),k≤nh∧i=.int .i64 k∧FrG w1 wr∧GSt w (.slice a' nh cap') v' (L2++rTo h key V k) wr) (fun i _=>nh - (intOf i).toNat)
   case atStart=>exact ⟨0,v',Nat.zero_le _,rfl,FK,by rw [show rTo h key V 0=[] from rfl,List.append_nil];exact hSk⟩
   case round =>
    obtain ⟨q,v5,hq,rfl,FQ,hSq⟩:=hrel
    have hvq:=FQ.owns hv1 (by decide) (by decide)
    by_cases hlt:q < nh
    ·have j1:(q:Int) < (nh:Int):=by omega
     obtain ⟨bb,off,rfl,HQ⟩:=HC.out (by omega)
     obtain ⟨_,_,c2,_⟩:=HQ.out q hlt _ hSq.below
     have HR:Hid (rTo h key V (q+1)=rTo h key V q++rOf h key V q):=rTo_next h key V q
     have hrl:=rTo_len h key V q
     by_cases hke:(ev h q).2.2.1=key
     ·rw [hke] at c2
      have D:=CO q _ hSq.below
      rw [outerI_nat] at D
      cases ho:outerB h q with
      | true =>
        rw [ho] at D
        have HO:Hid (rOf h key V q=rdEdges h V q):=by show _=_;unfold rOf readOf;rw [ho,decide_eq_true hke];rfl
        clear ho hke
        go_wp2_with fail
        refine D.mono ?_
        rintro e4 w4 ⟨rfl,b4⟩
        have hS4:=hSq.bel b4
        have hv4:=owns_below hvq b4
        go_wp2_with fail
        refine (CR q hlt V _ _ HVT.out (by have:=HN.out;omega) _ _ _ hS4 (by rw [HN.out];exact hv4) (by rw [List.length_append];omega)).mono ?_
        rintro e5 w5 ⟨rfl,fr5,v6,hS5⟩
        go_wp2_with fail
        refine ⟨⟨q+1,v6,by omega,by first | go_num | simp,FQ.trans ((FrG.of_below b4).trans fr5),by rw [HR.out,HO.out,← List.append_assoc];exact hS5⟩,by simp [intOf];omega⟩
      | false =>
        rw [ho] at D
        have HO:Hid (rOf h key V q=[]):=by show _=_;unfold rOf readOf;rw [ho,Bool.and_false];rfl
        clear ho hke
        go_wp2_with fail
        refine D.mono ?_
        rintro e4 w4 ⟨rfl,b4⟩
        have hS4:=hSq.bel b4
        go_wp2_with fail
        refine ⟨⟨q+1,v5,by omega,by first | go_num | simp,FQ.trans (FrG.of_below b4),by rw [HR.out,HO.out,List.append_nil];exact hS4⟩,by simp [intOf];omega⟩
     ·have HO:Hid (rOf h key V q=[]):=by show _=_;unfold rOf readOf;rw [decide_eq_false hke,Bool.false_and];rfl
      obtain ⟨y,hy⟩:∃ y,(ev h q).2.2.1=y:=⟨_,rfl⟩
      rw [hy] at c2 hke
      have s2:(y==key)=false:=beq_eq_false_iff_ne.2 hke
      have s4:decide (y=key)=false:=decide_eq_false hke
      clear hy
      go_wp2_with fail
      refine ⟨⟨q+1,v5,by omega,by first | go_num | simp,FQ,by rw [HR.out,HO.out,List.append_nil];exact hSq⟩,by simp [intOf];omega⟩
    ·obtain rfl:q=nh:=by omega
     have j1:¬ (q:Int) < (q:Int):=by omega
     go_wp2_with fail
     go_end0
     exact ⟨rfl,F1.trans FQ,v5,by rw [← List.append_assoc,HL2.out];exact hSq⟩
theorem str_cell {W:World} {B g n cc m:Nat} {K:List (List UInt8)} (hn:K.length=n) (h:W.ownsRow B 9 1 (.slice (some ⟨g,0,none⟩) n cc) n (strV K)) (hm:m < n) (hm2:m < K.length):W.cell? ⟨g,m,none⟩=some (.string ⟨K[m].toArray⟩):=by
 have c:=h.cellAt m (by omega)
 rw [c]
 simp [strV,List.getElem?_eq_getElem hm2]
set_option maxHeartbeats 4000000 in
theorem pall10_any (h:List Ev) (v:Value) (w:World) (hT:IsEvs w v h) (hG:∀ x∈h,goodE x) (hl:h.length≤300) :
 Calls Tryz.prog 49 #[v] w fun e w'=>EdRow 54 w (edgesL h) e w':=by
 obtain ⟨a,cap,rfl,h1,h2,h3,HC⟩:=hT.reads
 have B0:Below w.heap.size w ((w.alloc (.cells #[.slice a h.length cap] 22)).alloc (.cells #[.slice none 0 0] 26)):=((Below.refl _ w).alloc (Nat.le_refl _) _).alloc (by simp) _
 have hS0:GSt w (.slice a h.length cap) (.slice none 0 0) (eTo h 0) ((w.alloc (.cells #[.slice a h.length cap] 22)).alloc (.cells #[.slice none 0 0] 26)):=by
  have x1:=Boxed.new (w.alloc (.cells #[.slice a h.length cap] 22)) 26 (.slice none 0 0)
  rw [World.size_alloc] at x1
  exact ⟨B0,by simp,(Boxed.new w 22 (.slice a h.length cap)).alloc _,x1,World.ownsRow_nil _ _ _ _,fun g hg=>by simp [Value.ownBlock] at hg⟩
 have CK:=pkeys8_any h (.slice a h.length cap) _ (hT.below B0) hG hl
 have CF:=fun v' L W' hS' key hL=>pofkey_any h w a cap hT hG hl v' L W' hS' key hL
 have hkl:=keys_len h
 have hel:=eTo_len h 300 hl
 have HEA:Hid (eTo h (keysL h).length=edgesL h):=eTo_all h
 have hnx:=eTo_next h
 obtain ⟨K,hK⟩:∃ K,keysL h=K:=⟨_,rfl⟩
 have HK:Hid (keysL h=K):=hK
 rw [hK] at CK hkl hel HEA
 obtain ⟨n,hn⟩:∃ n,K.length=n:=⟨_,rfl⟩
 have HN:Hid (K.length=n):=hn
 have HEL:Hid (∀ k,k≤K.length→(eTo h k).length≤k*(3*300)):=hel
 have HNX:Hid (∀ k (hk:k < K.length),eTo h (k+1)=eTo h k++keyEdges h K[k]):=fun k hk=>by subst hK;exact hnx k hk
 obtain ⟨nh,hnh⟩:∃ nh,h.length=nh:=⟨_,rfl⟩
 rw [hn] at hkl
 rw [hnh] at CK CF hS0 B0 h1 h3 hl hkl ⊢
 clear hK hnx hel hn hT hG HC hnh
 have p0:=hS0.b0.cell
 go_enter Tryz.func49,Tryz.ntmps49
 go_wp2_with fail
 refine CK.mono ?_
 rintro e1 w1 ⟨vk,rfl,b1,hk1⟩
 rw [HN.out] at hk1
 have hS1:=hS0.bel b1
 clear CK hS0 p0 B0
 obtain ⟨adk,ck,rfl⟩:=own_shape hk1
 go_wp2_with fail
 go_loopw [11] (fun i wr=>∃ (k:Nat) (v':Value),k≤n∧i=.int .i64 k∧FrG w1 wr∧GSt w (.slice a nh cap) v' (eTo h k) wr) (fun i _=>n - (intOf i).toNat)
 case atStart=>exact ⟨0,_,Nat.zero_le _,rfl,FrG.refl _,hS1⟩
 case round =>
  obtain ⟨k,v',hk,rfl,FK,hSk⟩:=hrel
  have hkk:=FK.owns hk1 (by decide) (by decide)
  have c0:=hSk.b0.cell
  by_cases hlt:k < n
  ·have j0:(k:Int) < (n:Int):=by omega
   obtain ⟨g,cc,e,k1,k2⟩:=own_some hkk (by omega)
   cases e
   have hk2:k < K.length:=by rw [HN.out];exact hlt
   have x0:=str_cell HN.out hkk hlt hk2
   have HX:=HNX.out k hk2
   have hel:=HEL.out k (by omega)
   obtain ⟨key,hkey⟩:∃ key,K[k]=key:=⟨_,rfl⟩
   rw [hkey] at x0 HX
   have HXX:Hid (eTo h (k+1)=eTo h k++keyEdges h key):=HX
   clear hkey HX
   go_wp2_with fail
   refine (CF _ _ _ hSk key (by omega)).mono ?_
   rintro e4 w4 ⟨rfl,fr4,v4,hS4⟩
   go_wp2_with fail
   refine ⟨⟨k+1,v4,by omega,by first | go_num | simp,FK.trans fr4,by rw [HXX.out];exact hS4⟩,by simp [intOf];omega⟩
  ·obtain rfl:k=n:=by omega
   have jq:¬ (k:Int) < (k:Int):=by omega
   have q1:=hSk.bv.cell
   obtain ⟨ad,cc,rfl⟩:=own_shape hSk.row
   go_wp2_with fail
   go_ret
   have hr:=hSk.row
   have e:eTo h k=edgesL h:=by rw [← HEA.out,HN.out]
   rw [e] at hr
   refine ⟨_,rfl,hSk.below,?_⟩
   have hlen:(edgesL h).length=(eTo h k).length:=by rw [e]
   rw [← hlen]
   exact hr
theorem path_first (l:List Stp) (N:List Int) (hE:∀ s∈l,inN N s.1=true∧inN N s.2.1=true) (start:Int) (many:Nat) (away:Int→Option Nat) (hA:AwOk l start many away) (j rest:Nat) (at_:Int) (hj:Walk l j start at_) (hjr:j+1+rest=many) (hr:Walk l (rest+1) at_ start) :
 ∃ nx,∃ hn:nx < (frL l (inN N) at_).length,fi (fun q=>decide (away (stA l ((frL l (inN N) at_).getD q 0)).2.1=some rest)) (frL l (inN N) at_).length=some nx∧(stA l (frL l (inN N) at_)[nx]).1=at_∧Walk l rest (stA l (frL l (inN N) at_)[nx]).2.1 start∧ringPath l start (rest+1) at_=stA l (frL l (inN N) at_)[nx]::ringPath l start rest (stA l (frL l (inN N) at_)[nx]).2.1:=by
 obtain ⟨F,hF⟩:∃ F,frL l (inN N) at_=F:=⟨_,rfl⟩
 have hmem:∀ i,i∈F↔i < l.length∧(stA l i).1=at_:=fun i=>by
  rw [← hF,fr_mem]
  constructor
  ·rintro ⟨a,b,_⟩;exact ⟨a,b⟩
  ·rintro ⟨a,b⟩
   have:=hE _ (stA_mem l i a)
   exact ⟨a,b,by rw [← b];exact this.1,this.2⟩
 have hsort:F.Pairwise (·< ·):=by rw [← hF];exact List.Pairwise.filter _ List.pairwise_lt_range
 have hiff:∀ i∈F,(away (stA l i).2.1=some rest↔Walk l rest (stA l i).2.1 start):=fun i hi=>by
  obtain ⟨h1,h2⟩:=(hmem i).1 hi
  exact hA j rest (stA l i) (stA_mem l i h1) (by rw [h2];exact hj) hjr
 rw [hF]
 have hg:∀ q (hq:q < F.length),F.getD q 0=F[q]:=fun q hq=>by simp [hq]
 cases hfi:fi (fun q=>decide (away (stA l (F.getD q 0)).2.1=some rest)) F.length with
 | none =>
   exfalso
   obtain ⟨s,hs,hw,e⟩:=hr
   obtain ⟨i,hi,rfl⟩:=List.getElem_of_mem hs
   have hiF:i∈F:=(hmem i).2 ⟨hi,by rw [stA_at l i hi];exact e.symm⟩
   obtain ⟨q,hq,e2⟩:=List.getElem_of_mem hiF
   have:=(fi_none _ _).1 hfi q hq
   rw [hg q hq,e2,decide_eq_false_iff_not] at this
   exact this ((hiff i hiF).2 (by rw [stA_at l i hi];exact hw))
 | some nx =>
   obtain ⟨n1,n2,n3⟩:=(fi_some _ _ _).1 hfi
   rw [hg nx n1,decide_eq_true_eq] at n2
   have hiF:F[nx]∈F:=List.getElem_mem n1
   obtain ⟨m1,m2⟩:=(hmem _).1 hiF
   have hw:=(hiff _ hiF).1 n2
   refine ⟨nx,n1,rfl,m2,hw,?_⟩
   have:=path_next l start rest at_ F[nx] m1 (by rw [← stA_at l _ m1];exact m2) (by rw [way_iff,← stA_at l _ m1];exact hw) (fun q hq hlt hh=>?_)
   ·rw [stA_at l _ m1];exact this
   ·have hqF:q∈F:=(hmem q).2 ⟨hq,by rw [stA_at l q hq];exact hh.1⟩
    obtain ⟨q',hq',e⟩:=List.getElem_of_mem hqF
    have hq2:q' < nx:=by
     rcases Nat.lt_or_ge q' nx with h | h
     ·exact h
     ·exfalso
      rcases Nat.lt_or_ge nx q' with h' | h'
      ·have:=(List.pairwise_iff_getElem.1 hsort) nx q' n1 hq' h'
       omega
      ·have e3:q'=nx:=by omega
       subst e3
       omega
    have:=n3 q' hq2
    rw [hg q' hq',e,decide_eq_false_iff_not] at this
    exact this ((hiff q hqF).2 (by rw [stA_at l q hq];exact (way_iff l start rest _).1 hh.2))
abbrev nearF (ba bw br:Nat):Value:=.func (.func 116) #[] #[.pointer (some ⟨ba,0,none⟩),.pointer (some ⟨bw,0,none⟩),.pointer (some ⟨br,0,none⟩)]
set_option maxHeartbeats 4000000 in
theorem pnear11_any (V:World) (l:List Stp) (vn:Value) (vl:Value) (m1 m2 m3 ma n ba bw br:Nat) (Q:List (Int × Nat)) (rest pl:Nat) (hT:IsSts V vl l) (hpl:pl < l.length) (okl:∀ x∈l,goodSt x) (hA:Boxed V ba tMM (.map (some ma))) (hM:VMap V ma n (awV Q)) (hW:SBox V bw tW (webC vl vn m1 m2 m3)) (hR:Boxed V br 3 (.int .i64 (rest:Int))) :
 Calls Tryz.prog 116 #[.int .i64 (pl:Int),.pointer (some ⟨ba,0,none⟩),.pointer (some ⟨bw,0,none⟩),.pointer (some ⟨br,0,none⟩)] V fun e V'=>e=.returned (.bool (decide (aw Q (stA l pl).2.1=some rest)))∧Below V.heap.size V V':=by
 obtain ⟨al,cl,rfl,p1,p2,p3,HL⟩:=sts_at hT
 obtain ⟨bL,oL,rfl,_,cell1⟩:=HL.out pl hpl
 have hIy:I64 (stA l pl).2.1:=(okl _ (stA_mem l pl hpl)).2.1
 obtain ⟨y,hy⟩:∃ y,(stA l pl).2.1=y:=⟨_,rfl⟩
 rw [hy] at cell1 hIy ⊢
 have a0:=hA.cell
 have w0:=hW.cell 0 _ rfl
 have r0:=hR.cell
 obtain ⟨nl,hnl⟩:∃ nl,l.length=nl:=⟨_,rfl⟩
 rw [hnl] at hpl w0
 have jp:(pl:Int) < (nl:Int):=by omega
 have qq:=fun (v:Value) (hv:(awV Q y).getD (.int .i64 0)=v) (is:Bool) (his:(awV Q y).isSome=is) (k:Nat)=>vlook_ok_run (W:=V.drewN k) (VMap.same hM (by rfl)) Tryz.underlying97 (zeroI _) y hIy v hv is his
 cases hq:aw Q y with
 | none =>
   have q1:=qq (.int .i64 0) (by unfold awV;rw [hq];rfl) false (by unfold awV;rw [hq];rfl)
   clear hy hA hM hW hR hq qq hnl HL hT
   go_enter Tryz.func116,Tryz.ntmps116
   go_wp2_with fail
   go_quiet (fail)
   go_wp2_with fail
   go_ret
   exact ⟨rfl,below_drewN (Below.refl _ _) nq⟩
 | some d =>
   have q1:=qq (.int .i64 (d:Int)) (by unfold awV;rw [hq];rfl) true (by unfold awV;rw [hq];rfl)
   by_cases hd:d=rest
   ·subst hd
    rw [decide_eq_true rfl]
    clear hy hA hM hW hR hq qq hnl HL hT
    go_enter Tryz.func116,Tryz.ntmps116
    go_wp2_with fail
    go_quiet (fail)
    go_wp2_with fail
    go_ret
    exact ⟨rfl,below_drewN (Below.refl _ _) nq⟩
   ·rw [decide_eq_false (by intro h;exact hd (Option.some.inj h))]
    have e1:((d:Int)==(rest:Int))=false:=by simp;omega
    clear hy hA hM hW hR hq qq hnl HL hT
    go_enter Tryz.func116,Tryz.ntmps116
    go_wp2_with fail
    go_quiet (fail)
    go_wp2_with fail
    go_ret
    exact ⟨rfl,below_drewN (Below.refl _ _) nq⟩
set_option maxHeartbeats 2000000 in
theorem pidxW_any (V:World) (l:List Stp) (vn vl vF:Value) (F:List Nat) (m1 m2 m3 ma n ba bw br:Nat) (Q:List (Int × Nat)) (rest:Nat) (hT:IsSts V vl l) (hF:IsInts V vF (F.map Int.ofNat)) (hFl:∀ i∈F,i < l.length) (okl:∀ x∈l,goodSt x) (hA:Boxed V ba tMM (.map (some ma))) (hM:VMap V ma n (awV Q)) (hW:SBox V bw tW (webC vl vn m1 m2 m3)) (hR:Boxed V br 3 (.int .i64 (rest:Int))) :
 Calls Tryz.prog 115 #[vF,nearF ba bw br] V fun e V'=>e=.returned (.int .i64 (oI (fi (fun q=>decide (aw Q (stA l (F.getD q 0)).2.1=some rest)) F.length)))∧Below V.heap.size V V':=by
 have C:=fun (pl:Nat) (hp:pl < l.length) W (hW':Below V.heap.size V W)=>pnear11_any W l vn vl m1 m2 m3 ma n ba bw br Q rest pl (hT.below hW') hp okl (boxed_below7 hA hW') (hM.bel hW' hM.lt) (hW.below hW') (boxed_below7 hR hW')
 have HFr:Hid (∀ W,Below V.heap.size V W→IsInts W vF (F.map Int.ofNat)):=fun W hW'=>hF.below hW'
 obtain ⟨a,cap,rfl,h1,h2,h3,_⟩:=ints_at hF
 obtain ⟨P,hP⟩:∃ P:Nat→Bool,P=fun q=>decide (aw Q (stA l (F.getD q 0)).2.1=some rest):=⟨_,rfl⟩
 rw [← hP]
 have HP:=Lib.hid hP
 have HC:=Lib.hid C
 have HFl:=Lib.hid hFl
 obtain ⟨nF,hnF⟩:∃ nF,F.length=nF:=⟨_,rfl⟩
 have HNF:=Lib.hid hnF
 rw [hnF] at h1 h3
 rw [hnF]
 clear C hT hF hFl hA hM hW hR hP hnF
 go_enter Tryz.func115,Tryz.ntmps115
 go_wp2_with fail
 go_loopw [8] (fun i wr=>∃ k:Nat,k≤nF∧i=.int .i64 k∧Hid (∀ j,j < k→P j=false)∧Below V.heap.size V wr) (fun i _=>nF - (intOf i).toNat)
 case atStart=>exact ⟨0,Nat.zero_le _,rfl,fun j hj=>absurd hj (by omega),Below.refl _ _⟩
 case round =>
  obtain ⟨k,hk,rfl,HF0,hB⟩:=hrel
  by_cases hlt:k < nF
  ·have j0:(k:Int) < (nF:Int):=by omega
   have hkF:k < F.length:=by have:=HNF.out;omega
   obtain ⟨a',cap',ef,_,_,_,HQ⟩:=ints_at (HFr.out wr hB)
   obtain ⟨bb,off,ea,cell⟩:=HQ.out k hkF
   obtain ⟨rfl,rfl⟩:a=a'∧cap=cap':=by
    have hh:=HNF.out
    simpa [hh] using ef
   subst ea
   have D:=HC.out F[k] (HFl.out _ (List.getElem_mem hkF)) wr hB
   have HI:Hid (P k=decide (aw Q (stA l F[k]).2.1=some rest)):=by show _=_;rw [HP.out];simp [hkF]
   obtain ⟨bl,hbl⟩:∃ bl,decide (aw Q (stA l F[k]).2.1=some rest)=bl:=⟨_,rfl⟩
   rw [hbl] at D HI
   obtain ⟨pl,hpl⟩:∃ pl,F[k]=pl:=⟨_,rfl⟩
   rw [hpl] at D cell
   clear hbl hpl ef
   cases bl with
   | true =>
     go_wp2_with fail
     refine D.mono ?_
     rintro e1 w1 ⟨rfl,b1⟩
     have HE:Hid (fi P nF=some k):=(fi_some _ _ _).2 ⟨hlt,HI.out,HF0.out⟩
     go_wp2_with fail
     go_ret
     refine ⟨?_,bel_trans hB b1⟩
     rw [HE.out]
     rfl
   | false =>
     go_wp2_with fail
     refine D.mono ?_
     rintro e1 w1 ⟨rfl,b1⟩
     go_wp2_with fail
     refine ⟨⟨k+1,by omega,by first | go_num | simp,?_,bel_trans hB b1⟩,by simp [intOf];omega⟩
     intro j hj
     rcases Nat.lt_succ_iff_lt_or_eq.1 hj with h' | rfl
     ·exact HF0.out j h'
     ·exact HI.out
  ·obtain rfl:nF=k:=by omega
   have jq:¬ (nF:Int) < (nF:Int):=by omega
   have HE:Hid (fi P nF=none):=(fi_none _ _).2 HF0.out
   go_wp2_with fail
   go_ret
   refine ⟨?_,hB⟩
   rw [HE.out]
   rfl
theorem path_firstF (l:List Stp) (N:List Int) (hE:∀ s∈l,inN N s.1=true∧inN N s.2.1=true) (start:Int) (many:Nat) (away:Int→Option Nat) (hA:AwOk l start many away) (j rest:Nat) (at_:Int) (hj:Walk l j start at_) (hjr:j+1+rest=many) (hr:Walk l (rest+1) at_ start) (F:List Nat) (hF:frL l (inN N) at_=F) :
 ∃ nx,∃ hn:nx < F.length,fi (fun q=>decide (away (stA l (F.getD q 0)).2.1=some rest)) F.length=some nx∧(stA l F[nx]).1=at_∧Walk l rest (stA l F[nx]).2.1 start∧ringPath l start (rest+1) at_=stA l F[nx]::ringPath l start rest (stA l F[nx]).2.1:=by
 subst hF
 exact path_first l N hE start many away hA j rest at_ hj hjr hr
def WkRes (V:World) (l:List Stp) (start:Int) (many:Nat) (e:Ending) (V':World):Prop :=
 ∃ (v:Value) (ps:List Nat),e=.returned v∧Below V.heap.size V V'∧V'.ownsRow V.heap.size 3 1 v ps.length (plV ps)∧ps.length=many∧(∀ p∈ps,p < l.length)∧ps.map (stA l)=ringPath l start many start
structure WkS (V W:World) (b0 ma n:Nat) (cs:Array Value) (Q:List (Int × Nat)) (br:Nat) (rv:Int) (pv:Value) (ps:List Nat):Prop where
 bl:Below V.heap.size V W
 s0:V.heap.size=b0
 bx:SBox W b0 tW cs
 ab:Boxed W (b0+1) tMM (.map (some ma))
 rb:Boxed W br 3 (.int .i64 rv)
 row:W.ownsRow V.heap.size 3 1 pv ps.length (plV ps)
 ap:pv.ownBlock≠some br
 rlo:b0≤br
theorem WkS.bel {V W W':World} {b0 ma n:Nat} {cs:Array Value} {Q:List (Int × Nat)} {br:Nat} {rv:Int} {pv:Value} {ps:List Nat} (h:WkS V W b0 ma n cs Q br rv pv ps) (hb:Below W.heap.size W W'):WkS V W' b0 ma n cs Q br rv pv ps :=
 ⟨bel_trans h.bl hb,h.s0,h.bx.below hb,boxed_below7 h.ab hb,boxed_below7 h.rb hb,h.row.kept (grown_below8 none hb) (by cases pv.ownBlock<;>simp),h.ap,h.rlo⟩
set_option maxHeartbeats 8000000 in
theorem pwalk11_any (Wc V:World) (l:List Stp) (N:List Int) (vl vn:Value) (m1 m2 m3:Nat) (hw:Web Wc l N vl vn m1 m2 m3) (hg:Wc.grownBy V (some m1)) (hE:∀ s∈l,inN N s.1=true∧inN N s.2.1=true) (start:Int) (hIs:I64 start) (many:Nat) (hmany:many≤17592186043904) (ma n:Nat) (Q:List (Int × Nat)) (hM:VMap V ma n (awV Q)) (hA:AwOk l start many (aw Q)) (hWk:Walk l many start start) :
 Calls Tryz.prog 87 #[webV vl vn m1 m2 m3,.int .i64 start,.int .i64 (many:Int),.map (some ma)] V fun e V'=>WkRes V l start many e V':=by
 obtain ⟨i0,hi,hz0,hz1,hz2⟩:=info_parts int_info
 have HW:=Lib.hid hw
 have Hg:=Lib.hid hg
 have HE:=Lib.hid hE
 have HA:=Lib.hid hA
 have HWk:=Lib.hid hWk
 have HMv:Hid (∀ W,Below V.heap.size V W→VMap W ma n (awV Q)):=fun W hW=>hM.bel hW hM.lt
 obtain ⟨al,cl,hvl,_⟩:=sts_at hw.sts
 obtain ⟨an,cn,hvn,_⟩:=hw.nums.some_at
 have HF1:Hid (∃ ff,(∀ W,Below V.heap.size V W→VMap W m2 17592186044416 ff)∧∀ x W,Below V.heap.size V W→IsInts W ((ff x).getD nilS) ((frL l (inN N) x).map Int.ofNat)):=by
  obtain ⟨ff,h1,h2⟩:=GMap.turned hw.isM hg hw.ne2 hw.fr
  exact ⟨ff,fun W hW=>h1.bel hW h1.lt,fun x W hW=>(h2 x).below hW⟩
 have HSt:Hid (∀ W,Below V.heap.size V W→IsSts W vl l):=fun W hW=>(hw.sts.turned hw.isM hg).below hW
 obtain ⟨b0,hb0⟩:∃ b0,V.heap.size=b0:=⟨_,rfl⟩
 obtain ⟨nl,hnl⟩:∃ nl,l.length=nl:=⟨_,rfl⟩
 obtain ⟨nN,hnN⟩:∃ nN,N.length=nN:=⟨_,rfl⟩
 have HNl:=Lib.hid hnl
 subst hvl hvn
 have hfl:=hw.few
 rw [hnl] at hfl HSt HW
 rw [hnN] at HW
 rw [hnl,hnN]
 obtain ⟨V3,hV3⟩:∃ V3,((V.alloc (.cells (webC (.slice al nl cl) (.slice an nN cn) m1 m2 m3) tW)).alloc (.cells #[.map (some ma)] tMM)).alloc (.cells #[.int .i64 ((many:Int) - 1)] 3)=V3:=⟨_,rfl⟩
 have hS3:WkS V V3 b0 ma n (webC (.slice al nl cl) (.slice an nN cn) m1 m2 m3) Q (b0+1+1) ((many:Int) - 1) (.slice none 0 0) []:=by
  rw [← hV3]
  refine ⟨(((Below.refl V.heap.size V).alloc (Nat.le_refl _) _).alloc (by simp) _).alloc (by simp;omega) _,hb0,?_,?_,?_,World.ownsRow_nil _ _ _ _,by simp [Value.ownBlock],by omega⟩
  ·rw [← hb0];exact ((SBox.new V tW _).alloc _).alloc _
  ·have:=(Boxed.new (V.alloc (.cells (webC (.slice al nl cl) (.slice an nN cn) m1 m2 m3) tW)) tMM (.map (some ma))).alloc (.cells #[.int .i64 ((many:Int) - 1)] 3)
   simpa [hb0] using this
  ·have:=Boxed.new ((V.alloc (.cells (webC (.slice al nl cl) (.slice an nN cn) m1 m2 m3) tW)).alloc (.cells #[.map (some ma)] tMM)) 3 (.int .i64 ((many:Int) - 1))
   simpa [hb0] using this
 have HS3:=Lib.hid hS3
 have zm:IntKind.i64.wrap ((many:Int) - 1)=(many:Int) - 1:=by rw [IntKind.wrap_i64];omega
 clear hS3 hw hg hE hA hWk hM hnl hnN
 go_enter Tryz.func87,Tryz.ntmps87
 go_wp2_with fail
 go_loopw [9,10,11] (fun pv av bv wr=>∃ (j r:Nat) (at_:Int) (ps:List Nat) (br:Nat),j+r=many∧av=.int .i64 at_∧bv=.pointer (some ⟨br,0,none⟩)∧Hid (WkS V wr b0 ma n (webC (.slice al nl cl) (.slice an nN cn) m1 m2 m3) Q br ((r:Int) - 1) pv ps)∧Hid (ps.length=j)∧Hid (∀ p∈ps,p < l.length)∧Hid (ps.map (stA l)++ringPath l start r at_=ringPath l start many start)∧Hid (Walk l j start at_)∧Hid (Walk l r at_ start)∧Hid (I64 at_)) (fun pv _ _ _=>many - slLen pv)
 case atStart=>exact ⟨0,many,start,[],b0+1+1,by omega,rfl,rfl,HS3,rfl,(fun p hp=>by cases hp),rfl,Walk.nil start,HWk,hIs⟩
 case round =>
  obtain ⟨j,r,at_,ps,br,hjr,rfl,rfl,HS,HPl,HPb,HPp,HWj,HWr,HIa⟩:=hrel
  have hS:=HS.out
  have r0:=hS.rb.cell
  obtain ⟨ad,cc,rfl⟩:=own_shape11 hS.row
  by_cases hr0:r=0
  ·subst hr0
   have jn:¬ (0:Int)≤((0:Nat):Int) - 1:=by omega
   have HE9:Hid (ps.map (stA l)=ringPath l start many start):=by have:=HPp.out;rw [ringPath,List.append_nil] at this;exact this
   have Hl9:Hid (ps.length=many):=by show _=_;rw [HPl.out];omega
   clear hS
   go_wp2_with fail
   go_ret
   exact ⟨_,ps,rfl,HS.out.bl,HS.out.row,Hl9.out,HPb.out,HE9.out⟩
  ·obtain ⟨rest,rfl⟩:∃ rest,r=rest+1:=⟨r - 1,by omega⟩
   have er:((rest+1:Nat):Int) - 1=(rest:Int):=by omega
   rw [er] at r0
   have jy:(0:Int)≤(rest:Int):=by omega
   obtain ⟨ff,hff1,hff2⟩:=HF1.out
   obtain ⟨F,hF⟩:∃ F,frL l (inN N) at_=F:=⟨_,rfl⟩
   have HFl:Hid (∀ i∈F,i < l.length):=by rw [← hF];exact frK_lt l (inN N) l.length at_
   have hfi:=hff2 at_
   rw [hF] at hfi
   obtain ⟨nx,hnx,k1,k2,k3,k4⟩:=path_firstF l N HE.out start many (aw Q) HA.out j rest at_ HWj.out (by omega) HWr.out F hF
   have HFi:=Lib.hid hfi
   obtain ⟨aF,cF,hvF,f1,f2,f3,_⟩:=ints_at (hfi V (Below.refl _ _))
   have hvF':(ff at_).getD (.slice none 0 0)=.slice aF F.length cF:=hvF
   rw [hvF] at HFi
   have hFle:F.length≤l.length:=by rw [← hF];exact frK_len l (inN N) l.length at_
   obtain ⟨nF,hnF⟩:∃ nF,F.length=nF:=⟨_,rfl⟩
   have HNF:=Lib.hid hnF
   rw [HNl.out] at hFle
   rw [hnF] at hvF' HFi f1 f3 hFle
   have hnx':nx < nF:=by omega
   have jx:(nx:Int) < (nF:Int):=by omega
   have hIa:=HIa.out
   have hf0:=hff1 wr hS.bl
   have CX:=pidxW_any wr l (.slice an nN cn) (.slice al nl cl) (.slice aF nF cF) F m1 m2 m3 ma n (b0+1) b0 br Q rest (HSt.out wr hS.bl) (HFi.out wr hS.bl) HFl.out HW.out.okl hS.ab (HMv.out wr hS.bl) hS.bx (by have:=hS.rb;rw [er] at this;exact this)
   rw [k1] at CX
   have ex:oI (some nx)=(nx:Int):=rfl
   rw [ex] at CX
   have HFf:=Lib.hid hff1
   have x3:=hS.bx.cell 3 _ rfl
   have Hk2:=Lib.hid k2
   have Hk3:=Lib.hid k3
   have Hk4:=Lib.hid k4
   have Hnx:=Lib.hid hnx
   clear hff2 hfi hvF k1 ex hff1 hS hF hnF k2 k3 k4 er
   go_wp2_with (at_lookup;refine wpl_look _ rfl _ _ tMI rfl 23 Tryz.underlying107 (zeroS _) m2 _ _ rfl hf0 at_ hIa rfl _ hvF' ?_)
   refine CX.mono ?_
   rintro e w1 ⟨rfl,b1⟩
   have hS1:=HS.out.bel b1
   have HS1:=Lib.hid hS1
   have hnx9:=Hnx.out
   have hf1:=HFf.out w1 hS1.bl
   obtain ⟨aF',cF',ef,_,_,_,HFc⟩:=ints_at (HFi.out w1 hS1.bl)
   obtain ⟨bF,oF,ea,cellF⟩:=HFc.out nx hnx9
   obtain ⟨rfl,rfl⟩:aF=aF'∧cF=cF':=by
    have hh:=HNF.out
    simpa [hh] using ef
   subst ea
   have hpl:F[nx] < l.length:=HFl.out _ (List.getElem_mem hnx9)
   have Hk2':Hid ((stA l F[nx]).1=at_):=Hk2.out
   have Hk3':Hid (Walk l rest (stA l F[nx]).2.1 start):=Hk3.out
   have Hk4':Hid (ringPath l start (rest+1) at_=stA l F[nx]::ringPath l start rest (stA l F[nx]).2.1):=Hk4.out
   obtain ⟨pl,hpl2⟩:∃ pl,F[nx]=pl:=⟨_,rfl⟩
   have Hpl2:=Lib.hid hpl2
   rw [hpl2] at cellF hpl Hk2' Hk3' Hk4'
   have y3:=hS1.bx.cell 3 _ rfl
   have hrow:=hS1.row
   have hap:=hS1.ap
   have hrb:=hS1.rb
   obtain ⟨np,hnp⟩:∃ np,ps.length=np:=⟨_,rfl⟩
   have Hnp:=Lib.hid hnp
   rw [hnp] at hrow hap
   rw [hnp]
   have Hnpj:Hid (np=j):=by show _=_;rw [← hnp];exact HPl.out
   have hnpl:np < many:=by have:=Hnpj.out;omega
   have hsz1:V.heap.size≤w1.heap.size:=hS1.bl.size
   clear hS1 hpl2 hnp ef Hk2 Hk3 Hk4
   go_wp2_with (first
    | (at_lookup;refine wpl_look _ rfl _ _ tMI rfl 23 Tryz.underlying107 (zeroS _) m2 _ _ rfl hf1 at_ hIa rfl _ hvF' ?_)
    | (at_builtin;refine wpList_append_own_at _ rfl _ _ 23 rfl V.heap.size 3 i0 (.int .i64 0) 1 8 Tryz.underlying23 hi hz0 hz1 hz2 rfl (by decide) (.slice ad np cc) _ _ rfl (hrow.alloc _) ⟨w1.heap.size,0,none⟩ 1 1 [.int .i64 (pl:Int)] rfl rfl ?a1 ?a2 ?a3 ?a4 ?a5 ?_))
   case a1=>intro jj u hj;match jj,hj with
    | 0,hj=>simp at hj;subst hj;simp [Addr.add]
   case a2=>intro u hu;simp at hu;subst hu;rfl
   case a3=>unfold maxLen;omega
   case a4=>omega
   case a5=>simp;omega
   intro r3 w2 hown3 hg3 _ hat3
   obtain ⟨ad3,c3,rfl⟩:=own_shape11 hown3
   have hA1:=HS1.out.bel ((Below.refl _ w1).alloc (Nat.le_refl _) (.cells #[.int .i64 (pl:Int)] 3))
   have hgr:some br≠(Value.slice ad np cc).ownBlock:=fun e=>hap e.symm
   have hrow':(w1.alloc (.cells #[.int .i64 (pl:Int)] 3)).ownsRow V.heap.size 3 1 (.slice ad np cc) np (plV ps):=hrow.alloc _
   have bl2:Below V.heap.size V w2:=hA1.bl.grown hg3 (by simp;omega) (fun q hq=>(hrow.lt q hq).1)
   have bx2:SBox w2 b0 tW (webC (.slice al nl cl) (.slice an nN cn) m1 m2 m3):=(hg3.block _ hA1.bx.lt (block_not_row hA1.bx (by decide) hrow')).trans hA1.bx
   have ab2:Boxed w2 (b0+1) tMM (.map (some ma)):=(hg3.block _ hA1.ab.lt (block_not_row hA1.ab (by decide) hrow')).trans hA1.ab
   have rb2:Boxed w2 br 3 (.int .i64 (((rest+1:Nat):Int) - 1)):=(hg3.block _ hA1.rb.lt hgr).trans hA1.rb
   have hbrl:=HS1.out.rb.lt
   have er:((rest+1:Nat):Int) - 1=(rest:Int):=by omega
   rw [er] at rb2
   have hf2:=HFf.out w2 bl2
   obtain ⟨aF',cF',ef,_,_,_,HFc⟩:=ints_at (HFi.out w2 bl2)
   obtain ⟨bF',oF',ea,cellF2⟩:=HFc.out nx hnx9
   obtain ⟨ea1,ea2⟩:some ⟨bF,oF,none⟩=aF'∧cF=cF':=by
    have hh:=HNF.out
    simpa [hh] using ef
   rw [← ea1] at ea
   obtain ⟨rfl,rfl⟩:bF=bF'∧oF=oF':=by simpa using ea
   rw [Hpl2.out] at cellF2
   obtain ⟨al',cl',el,_,_,_,HLc⟩:=sts_at (HSt.out w2 bl2)
   obtain ⟨bL,oL,eb,_,cell1⟩:=HLc.out pl hpl
   obtain ⟨rfl,rfl⟩:al=al'∧cl=cl':=by
    have hh:=HNl.out
    simpa [hh] using el
   subst eb
   have hIy:I64 (stA l pl).2.1:=(HW.out.okl _ (stA_mem l pl hpl)).2.1
   have hstp:stA l pl∈l:=stA_mem l pl hpl
   have jp:(pl:Int) < (nl:Int):=by have:=HNl.out;omega
   have q2:∀ k,(Instr.lookup tMI (.map (some m2)) (.int .i64 at_) false).run Tryz.prog (w2.drewN k)=.ok (.slice (some ⟨bF,oF,none⟩) nF cF) (w2.drewN k):=fun k=>vlook_run (VMap.same hf2 (by rfl)) Tryz.underlying107 (zeroS _) at_ hIa _ hvF'
   obtain ⟨y,hy⟩:∃ y,(stA l pl).2.1=y:=⟨_,rfl⟩
   have Hy:=Lib.hid hy
   have HWj':Hid (Walk l (j+1) start y):=by
    have h1:Walk l 1 at_ y:=by rw [← Hk2'.out,← hy];exact Walk.cons _ 0 _ hstp (Walk.nil _)
    exact HWj.out.append h1
   rw [hy] at cell1 hIy Hk3' Hk4'
   have z0:=bx2.cell 0 _ rfl
   have z3:=bx2.cell 3 _ rfl
   have rr:=rb2.cell
   have Hbl2:=Lib.hid bl2
   have Hbx2:=Lib.hid bx2
   have Hab2:=Lib.hid ab2
   have Hrb2:=Lib.hid rb2
   have Hown:=Lib.hid hown3
   have Hhat:=Lib.hid hat3
   have hs2:=hg3.size
   clear hA1 bl2 bx2 ab2 rb2 hf1 hf2 hown3 hat3 hg3 hrow hrow' ef el ea ea1 ea2 hy hstp
   go_wp2_with fail
   go_quiet (fail)
   generalize hwz:w2.drewN _=wz
   have rz:wz.cell? ⟨br,0,none⟩=some (.int .i64 (rest:Int)):=by rw [← hwz];exact rr
   have zr:IntKind.i64.wrap ((rest:Int) - 1)=(rest:Int) - 1:=by rw [IntKind.wrap_i64];omega
   have hbz:Below w2.heap.size w2 wz:=by rw [← hwz];exact below_drewN (Below.refl _ _) _
   have Hsw:Hid (wz.heap.size=w2.heap.size):=by rw [← hwz];rfl
   have HSn:Hid (WkS V (wz.alloc (.cells #[.int .i64 ((rest:Int) - 1)] 3)) b0 ma n (webC (.slice (some ⟨bL,oL,none⟩) nl cl) (.slice an nN cn) m1 m2 m3) Q wz.heap.size ((rest:Int) - 1) (.slice ad3 (np+1) c3) (ps++[pl])):=by
    have hbA:Below w2.heap.size w2 (wz.alloc (.cells #[.int .i64 ((rest:Int) - 1)] 3)):=bel_trans hbz ((Below.refl _ wz).alloc (Nat.le_refl _) _)
    have hsw:=Hsw.out
    have hap3:(Value.slice ad3 (np+1) c3).ownBlock≠some wz.heap.size:=fun e=>by have:=(Hown.out.lt _ e).2;omega
    refine ⟨bel_trans Hbl2.out hbA,hb0,Hbx2.out.below hbA,boxed_below7 Hab2.out hbA,Boxed.new wz 3 _,?_,hap3,by have:=Hbx2.out.lt;omega⟩
    have h1:=Hown.out.kept (grown_below8 none hbA) (by cases (Value.slice ad3 (np+1) c3).ownBlock<;>simp)
    rw [List.length_append,Hnp.out]
    unfold plV at h1 ⊢
    rw [List.map_append,iV_app,hb0]
    exact h1
   have HPl':Hid ((ps++[pl]).length=j+1):=by show _=_;rw [List.length_append,HPl.out];rfl
   have HPb':Hid (∀ p∈ps++[pl],p < l.length):=fun p hp=>by
    rcases List.mem_append.1 hp with hp | hp
    ·exact HPb.out p hp
    ·rw [List.mem_singleton] at hp;rw [hp];exact hpl
   have HPp':Hid ((ps++[pl]).map (stA l)++ringPath l start rest y=ringPath l start many start):=by
    show _=_
    rw [← HPp.out,Hk4'.out,List.map_append]
    simp
   have HIy:=Lib.hid hIy
   clear hbz hwz hIy rr z0 z3 q2
   go_wp2_with fail
   refine ⟨⟨j+1,rest,y,ps++[pl],wz.heap.size,by omega,rfl,rfl,HSn,HPl',HPb',HPp',HWj',Hk3',HIy⟩,by have:=Hnpj.out;have:=Hnp.out;simp [slLen];omega⟩
end Go.Proofs.YtiihegldhnlleaaGreat
