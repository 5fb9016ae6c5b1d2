/-
  What taint.At and Outer answer. What taint.bads hands to a loop, whatever is done with it. What taint.All answers, by the library's Collect and AppendSeq. What
-/
import Derived.Test.YtdlcimfifkhllaaGreatCP9Of
import Derived.Test.YtdlcimfifkhllaaGreatCP10Read
import Derived.Test.YtdlcimfifkhllaaGreatCP12Eq
import Derived.Test.YtdlcimfifkhllaaGreatCP10HoldsA
namespace Go.Proofs.YtdlcimfifkhllaaGreat
set_option maxRecDepth 100000
open Go.RowKit
set_option linter.unusedVariables false
attribute [local go_sem] ba_size
set_option maxHeartbeats 4000000 in
theorem pat_any (h:List Ev) (v:Value) (w:World) (hT:IsEvs w v h) (i:Int) :
 Calls Tryz.prog 52 #[v,.int .i64 i] w fun e w'=>e=.returned (badA (atI h i))∧Below w.heap.size w w':=by
 have CC:=fun W hW=>pcounts_any h v W (hT.below (w':=W) hW) i
 have R0:=SBox.new w 25 #[.int .i64 0,.int .i64 0,.int .i64 0]
 have B0:=(Below.refl w.heap.size w).alloc (Nat.le_refl _) (.cells #[.int .i64 0,.int .i64 0,.int .i64 0] 25)
 by_cases hc:countI h i=true
 ·rw [hc] at CC
  have hi0:0≤i∧countsB h i.toNat=true:=by
   unfold countI at hc
   rw [Bool.and_eq_true,decide_eq_true_eq] at hc
   exact hc
  obtain ⟨q,rfl⟩:∃ q:Nat,i=(q:Int):=⟨i.toNat,by omega⟩
  have hcq:countsB h q=true:=by have:=hi0.2;rwa [Int.toNat_natCast] at this
  have hA:atI h (q:Int)=atL h q:=by unfold atI;rw [if_pos (by omega),Int.toNat_natCast]
  rw [hA]
  have hcl:=(counts_iff h q).1 hcq
  have hq1:q < h.length:=hcl.1
  have CO:=fun W hW=>pown_any h v W (hT.below (w':=W) hW) q hq1
  have CF:=fun W hW=>pof_any h v W (hT.below (w':=W) hW) q hq1
  obtain ⟨a,cap,rfl,h1,h2,h3,HC⟩:=hT.reads
  obtain ⟨bb,off,rfl,HQ⟩:=HC.out (by omega)
  have HQ1:Hid (q < h.length):=hq1
  rcases hl:lastN h (ev h q).2.1 (ev h q).2.2.1 q with _ | k
  ·rw [at_ofw h q hcq hl]
   rw [hl] at CO
   simp only [oI] at CO
   obtain ⟨⟨r0',r1',r2'⟩,hr⟩:∃ y,ofwL h q=y:=⟨_,rfl⟩
   rw [hr] at CF ⊢
   obtain ⟨n,hn⟩:∃ n,h.length=n:=⟨_,rfl⟩
   rw [hn] at h1 h3 hq1 CC CO CF ⊢
   clear hr hl hcl hcq hi0 hc hA hT HC hn
   go_enter Tryz.func52,Tryz.ntmps52
   go_wp2_with fail
   refine (CC _ B0).mono ?_
   rintro e w1 ⟨rfl,b1⟩
   have R1:=R0.below b1
   have B1:=bel_trans B0 b1
   go_wp2_with fail
   refine (CO _ B1).mono ?_
   rintro e w2 ⟨rfl,b2⟩
   have R2:=R1.below b2
   have B2:=bel_trans B1 b2
   go_wp2_with fail
   refine (CF _ B2).mono ?_
   rintro e w3 ⟨rfl,b3⟩
   have R3:=R2.below b3
   have B3:=bel_trans B2 b3
   have r0:=R3.cell 0 _ rfl
   have r1:=R3.cell 1 _ rfl
   have r2:=R3.cell 2 _ rfl
   have g0:=R3.frozen 0
   have g1:=R3.frozen 1
   have g2:=R3.frozen 2
   go_wp2_with fail
   generalize hW:World.setCell _ _ _=W
   have RW:SBox W w.heap.size 25 #[.int .i64 r0',.int .i64 r1',.int .i64 r2']:=by rw [← hW];exact SBox.put3 R3 _ _ _
   have BZ:Below w.heap.size w W:=by rw [← hW];exact bel_put3 B3 (Nat.le_refl _) _ _ _
   exact bodyPost_ret (v:=badA (r0',r1',r2')) (results_row1 Tryz.results52 _ _ w.heap.size 25 _ (0,0) _ rfl RW Tryz.underlying25 rfl size_bad) rfl ⟨rfl,BZ⟩
  ·have hkq:=((lastN_some _ _ _ _ _).1 hl).1
   have HK:Hid (k < h.length):=by show k < _;omega
   rw [at_own h q k hcl hl]
   rw [hl] at CO
   simp only [oI] at CO
   have jk:¬ (k:Int) < 0:=by omega
   obtain ⟨⟨x0,x1,x2,x3⟩,hx⟩:∃ x,ev h q=x:=⟨_,rfl⟩
   have HX:Hid (ev h q=(x0,x1,x2,x3)):=hx
   obtain ⟨⟨z0,z1,z2,z3⟩,hz⟩:∃ x,ev h k=x:=⟨_,rfl⟩
   have HZ:Hid (ev h k=(z0,z1,z2,z3)):=hz
   simp only [hx,hz]
   obtain ⟨n,hn⟩:∃ n,h.length=n:=⟨_,rfl⟩
   have hkn:k < n:=by omega
   rw [hn] at h1 h3 hq1 CC CO CF ⊢
   clear hx hz hl hcl hcq hi0 hc hA hT HC hn CF
   by_cases d:z3=x3
   ·rw [if_pos d]
    subst d
    go_enter Tryz.func52,Tryz.ntmps52
    go_wp2_with fail
    refine (CC _ B0).mono ?_
    rintro e w1 ⟨rfl,b1⟩
    have R1:=R0.below b1
    have B1:=bel_trans B0 b1
    go_wp2_with fail
    refine (CO _ B1).mono ?_
    rintro e w2 ⟨rfl,b2⟩
    have R2:=R1.below b2
    have B2:=bel_trans B1 b2
    have c3:=(HQ.out q HQ1.out _ B2).2.2.2
    have k3:=(HQ.out k HK.out _ B2).2.2.2
    rw [HX.out] at c3
    rw [HZ.out] at k3
    simp only at c3 k3
    go_wp2_with fail
    go_quiet (fail)
    have R3:=R2.below (below_drewN (Below.refl _ _) nq)
    have B3:=below_drewN B2 nq
    have r0:=R3.cell 0 _ rfl
    have r1:=R3.cell 1 _ rfl
    have r2:=R3.cell 2 _ rfl
    have g0:=R3.frozen 0
    have g1:=R3.frozen 1
    have g2:=R3.frozen 2
    go_wp2_with fail
    generalize hW:World.setCell _ _ _=W
    have RW:SBox W w.heap.size 25 #[.int .i64 0,.int .i64 0,.int .i64 0]:=by rw [← hW];exact SBox.put3 R3 _ _ _
    have BZ:Below w.heap.size w W:=by rw [← hW];exact bel_put3 B3 (Nat.le_refl _) _ _ _
    exact bodyPost_ret (v:=badA (0,0,0)) (results_row1 Tryz.results52 _ _ w.heap.size 25 _ (0,0) _ rfl RW Tryz.underlying25 rfl size_bad) rfl ⟨rfl,BZ⟩
   ·have e1:(z3 != x3)=true:=bne_iff_ne.2 d
    have e2:(z3==x3)=false:=beq_eq_false_iff_ne.2 d
    have e4:decide (z3=x3)=false:=decide_eq_false d
    rw [if_neg d]
    go_enter Tryz.func52,Tryz.ntmps52
    go_wp2_with fail
    refine (CC _ B0).mono ?_
    rintro e w1 ⟨rfl,b1⟩
    have R1:=R0.below b1
    have B1:=bel_trans B0 b1
    go_wp2_with fail
    refine (CO _ B1).mono ?_
    rintro e w2 ⟨rfl,b2⟩
    have R2:=R1.below b2
    have B2:=bel_trans B1 b2
    have c3:=(HQ.out q HQ1.out _ B2).2.2.2
    have k3:=(HQ.out k HK.out _ B2).2.2.2
    rw [HX.out] at c3
    rw [HZ.out] at k3
    simp only at c3 k3
    go_wp2_with fail
    go_quiet (fail)
    have R3:=R2.below (below_drewN (Below.refl _ _) nq)
    have B3:=below_drewN B2 nq
    have r0:=R3.cell 0 _ rfl
    have r1:=R3.cell 1 _ rfl
    have r2:=R3.cell 2 _ rfl
    have g0:=R3.frozen 0
    have g1:=R3.frozen 1
    have g2:=R3.frozen 2
    go_wp2_with fail
    generalize hW:World.setCell _ _ _=W
    have RW:SBox W w.heap.size 25 #[.int .i64 3,.int .i64 (q:Int),.int .i64 (k:Int)]:=by rw [← hW];exact SBox.put3 R3 _ _ _
    have BZ:Below w.heap.size w W:=by rw [← hW];exact bel_put3 B3 (Nat.le_refl _) _ _ _
    exact bodyPost_ret (v:=badA (3,(q:Int),(k:Int))) (results_row1 Tryz.results52 _ _ w.heap.size 25 _ (0,0) _ rfl RW Tryz.underlying25 rfl size_bad) rfl ⟨rfl,BZ⟩
 ·have hcf:countI h i=false:=by simpa using hc
  rw [hcf] at CC
  have hA:atI h i=(0,0,0):=by
   unfold countI at hcf
   unfold atI
   by_cases h0:0≤i
   ·rw [if_pos h0]
    rw [decide_eq_true h0,Bool.true_and] at hcf
    unfold atL
    rw [if_pos hcf]
   ·rw [if_neg h0]
  rw [hA]
  obtain ⟨a,cap,rfl,h1,h2,h3,HC⟩:=hT.reads
  clear hc hcf hA hT HC
  go_enter Tryz.func52,Tryz.ntmps52
  go_wp2_with fail
  refine (CC _ B0).mono ?_
  rintro e w1 ⟨rfl,b1⟩
  have R1:=R0.below b1
  have B1:=bel_trans B0 b1
  have r0:=R1.cell 0 _ rfl
  have r1:=R1.cell 1 _ rfl
  have r2:=R1.cell 2 _ rfl
  have g0:=R1.frozen 0
  have g1:=R1.frozen 1
  have g2:=R1.frozen 2
  go_wp2_with fail
  generalize hW:World.setCell _ _ _=W
  have RW:SBox W w.heap.size 25 #[.int .i64 0,.int .i64 0,.int .i64 0]:=by rw [← hW];exact SBox.put3 R1 _ _ _
  have BZ:Below w.heap.size w W:=by rw [← hW];exact bel_put3 B1 (Nat.le_refl _) _ _ _
  exact bodyPost_ret (v:=badA (0,0,0)) (results_row1 Tryz.results52 _ _ w.heap.size 25 _ (0,0) _ rfl RW Tryz.underlying25 rfl size_bad) rfl ⟨rfl,BZ⟩
theorem pouter_any (h:List Ev) (v:Value) (w:World) (hT:IsEvs w v h) (i:Int) :
 Calls Tryz.prog 95 #[v,.int .i64 i] w fun e w'=>e=.returned (.bool (outerI h i))∧Below w.heap.size w w':=by
 have CC:=fun W hW=>pcounts_any h v W (hT.below (w':=W) hW) i
 by_cases hc:countI h i=true
 ·rw [hc] at CC
  have hi0:0≤i∧countsB h i.toNat=true:=by
   unfold countI at hc
   rw [Bool.and_eq_true,decide_eq_true_eq] at hc
   exact hc
  obtain ⟨q,rfl⟩:∃ q:Nat,i=(q:Int):=⟨i.toNat,by omega⟩
  have hcq:countsB h q=true:=by have:=hi0.2;rwa [Int.toNat_natCast] at this
  have hq1:q < h.length:=((counts_iff h q).1 hcq).1
  have CO:=fun W hW=>pown_any h v W (hT.below (w':=W) hW) q hq1
  have hA:outerI h (q:Int)=decide (lastN h (ev h q).2.1 (ev h q).2.2.1 q=none):=by unfold outerI outerB;rw [decide_eq_true (by omega),Int.toNat_natCast,hcq];simp
  rw [hA]
  obtain ⟨a,cap,rfl,h1,h2,h3,HC⟩:=hT.reads
  rcases hl:lastN h (ev h q).2.1 (ev h q).2.2.1 q with _ | k
  ·rw [decide_eq_true rfl]
   rw [hl] at CO
   simp only [oI] at CO
   obtain ⟨n,hn⟩:∃ n,h.length=n:=⟨_,rfl⟩
   rw [hn] at h1 h3 hq1 CC CO ⊢
   clear hl hcq hi0 hc hA hT HC hn
   go_enter Tryz.func95,Tryz.ntmps95
   go_wp2_with fail
   refine (CC _ (Below.refl _ _)).mono ?_
   rintro e w1 ⟨rfl,b1⟩
   go_wp2_with fail
   refine (CO _ b1).mono ?_
   rintro e w2 ⟨rfl,b2⟩
   go_wp2_with fail
   go_ret
   exact ⟨rfl,bel_trans b1 b2⟩
  ·rw [decide_eq_false (by simp)]
   rw [hl] at CO
   simp only [oI] at CO
   have jk:¬ (k:Int) < 0:=by omega
   obtain ⟨n,hn⟩:∃ n,h.length=n:=⟨_,rfl⟩
   rw [hn] at h1 h3 hq1 CC CO ⊢
   clear hl hcq hi0 hc hA hT HC hn
   go_enter Tryz.func95,Tryz.ntmps95
   go_wp2_with fail
   refine (CC _ (Below.refl _ _)).mono ?_
   rintro e w1 ⟨rfl,b1⟩
   go_wp2_with fail
   refine (CO _ b1).mono ?_
   rintro e w2 ⟨rfl,b2⟩
   go_wp2_with fail
   go_ret
   exact ⟨rfl,bel_trans b1 b2⟩
 ·have hcf:countI h i=false:=by simpa using hc
  rw [hcf] at CC
  have hA:outerI h i=false:=by
   unfold outerI outerB
   unfold countI at hcf
   rw [← Bool.and_assoc,hcf,Bool.false_and]
  rw [hA]
  obtain ⟨a,cap,rfl,h1,h2,h3,HC⟩:=hT.reads
  clear hc hcf hA hT HC
  go_enter Tryz.func95,Tryz.ntmps95
  go_wp2_with fail
  refine (CC _ (Below.refl _ _)).mono ?_
  rintro e w1 ⟨rfl,b1⟩
  go_wp2_with fail
  go_ret
  exact ⟨rfl,b1⟩
open Go.RowKit Go.Shelf
attribute [local go_sem] Oper.semAt_some
abbrev badsF9 (b:Nat):Value:=.func (.func 106) #[] #[.pointer (some ⟨b,0,none⟩)]
theorem pbads9_any (a:Option Addr) (n cap:Nat) (w:World) :
 Calls Tryz.prog 83 #[.slice a n cap] w fun e w'=>e=.returned (badsF9 w.heap.size)∧w'=w.alloc (.cells #[.slice a n cap] 22):=by
 go_enter Tryz.func83,Tryz.ntmps83
 go_wp2_with fail
 go_ret
 exact ⟨rfl,rfl⟩
def badTo (h:List Ev) (k:Nat):List Bd:=(List.range k).filterMap (badAt h)
theorem badTo_len (h:List Ev) (k:Nat):(badTo h k).length≤k:=by
 have:=List.length_filterMap_le (badAt h) (List.range k)
 rwa [List.length_range] at this
theorem badTo_no (h:List Ev) (k:Nat) (h0:(atL h k).1=0):badTo h (k+1)=badTo h k:=by
 unfold badTo
 rw [bads_next,show badAt h k=none by unfold badAt;rw [if_pos h0]]
 simp
theorem badTo_yes (h:List Ev) (k:Nat) (h0:¬ (atL h k).1=0):badTo h (k+1)=badTo h k++[atL h k]:=by
 unfold badTo
 rw [bads_next,show badAt h k=some (atL h k) by unfold badAt;rw [if_neg h0]]
 rfl
theorem badTo_pre (h:List Ev) (k:Nat) (hk:k≤h.length):badTo h k <+: badsL h:=by
 obtain ⟨r,hr⟩:=bads_pre h h.length k hk
 exact ⟨r,by rw [bads_is,hr];rfl⟩
abbrev badX (x:Bd):Array Value:=#[badA x]
set_option maxHeartbeats 2000000 in
theorem bads9_in (l:Nat) (h:List Ev) (w0:World) (a:Option Addr) (cap:Nat) (hT:IsEvs w0 (.slice a h.length cap) h) (bh k:Nat) (J Jx:List Bd→World→Prop)
 (hJ:∀ pre W W',J pre W→Below W.heap.size W W'→J pre W')
 (hY:∀ pre x W,J pre W→pre.length < h.length→YieldAt Fence.wide (k - 1) Tryz.prog l (badX x) W fun e W'=>(e=.returned (.bool true)∧J (pre++[x]) W'∧KpE w0.heap.size bh W W')∨(e=.returned (.bool false)∧Jx (pre++[x]) W'))
 (W:World) (hW:Below w0.heap.size w0 W) (hbox:Boxed W bh 22 (.slice a h.length cap)) (h0:J [] W) :
 CallsIn Fence.wide k Tryz.prog 106 #[.func (.yield l) #[] #[],.pointer (some ⟨bh,0,none⟩)] W fun e W'=>(∃ v,e=.returned v) ∧
  ((∃ ys,ys=badsL h∧J ys W')∨(∃ pre,pre <+: badsL h∧Jx pre W')):=by
 have hdd:∀ k:Nat,(Fence.wide.depth.isSome=true→1≤k):=fun k h=>by cases h
 have CA:=fun (i:Int) V hV=>pat_any h (.slice a h.length cap) V (hT.below (w':=V) hV) i
 obtain ⟨a',cap',e1,h1,h2,h3,HC⟩:=hT.some_at
 obtain ⟨rfl,rfl⟩:a'=a∧cap'=cap:=by simpa [eq_comm] using e1
 clear e1 hT HC
 have c0:=hbox.cell
 refine callsIn_of_wp Tryz.func106 rfl trivial ?_ rfl
 simp only [Tryz.ntmps106,List.size_toArray,List.length_cons,List.length_nil,Nat.reduceAdd,Nat.reduceSub,Array.replicate_succ,Array.replicate_zero,List.push_toArray,List.append_toArray,List.nil_append,List.cons_append]
 gi_wp2
 gi_loopw [7] (fun i wr=>∃ k:Nat,k≤h.length∧i=.int .i64 k∧J (badTo h k) wr∧Below w0.heap.size w0 wr∧Boxed wr bh 22 (.slice a' h.length cap')) (fun i _=>h.length - (intOf i).toNat)
 case atStart=>exact ⟨0,Nat.zero_le _,rfl,h0,hW,hbox⟩
 case round =>
  obtain ⟨k',hk,rfl,hJ0,hB,hbx⟩:=hrel
  have c1:=hbx.cell
  by_cases hlt:k' < h.length
  ·have hA:atI h (k':Int)=atL h k':=by unfold atI;rw [if_pos (by omega),Int.toNat_natCast]
   have C:=CA (k':Int) wr hB
   rw [hA] at C
   have i0:(k':Int) < (h.length:Int):=by omega
   obtain ⟨x,hx⟩:∃ x,atL h k'=x:=⟨_,rfl⟩
   have HX:Hid (atL h k'=x):=hx
   rw [hx] at C
   obtain ⟨x0,x1,x2⟩:=x
   clear hA hx
   by_cases hz:x0=0
   ·have HZ:Hid (x0=0∧x1=0∧x2=0):=by
     have:=at_zero h k' (by rw [HX.out];exact hz)
     rw [HX.out] at this
     simp only [Prod.mk.injEq] at this
     exact this
    obtain ⟨rfl,rfl,rfl⟩:=HZ.out
    clear hz HZ
    gi_wp2
    refine ⟨trivial,hdd _,?_⟩
    refine (callsIn_wide.2 C).mono ?_
    rintro e W1 ⟨rfl,b1⟩
    have X1:=SBox.new W1 25 #[.int .i64 0,.int .i64 0,.int .i64 0]
    have y0:=X1.cell 0 _ rfl
    have y1:=X1.cell 1 _ rfl
    have y2:=X1.cell 2 _ rfl
    have b2:=b1.alloc b1.size (.cells #[.int .i64 0,.int .i64 0,.int .i64 0] 25)
    have HJ1:Hid (J (badTo h (k'+1)) (W1.alloc (.cells #[.int .i64 0,.int .i64 0,.int .i64 0] 25))):=by
     show J _ _
     rw [badTo_no h k' (by rw [HX.out])]
     exact hJ _ _ _ hJ0 b2
    have HB1:=hB.trans (b2.mono hB.size)
    have hbx1:=boxed_below7 hbx b2
    gi_wp2
    refine ⟨fun f e=>(by cases e),?_⟩
    gi_wp2
    go_roundw
    case rel=>exact ⟨k'+1,by omega,by first | go_num | simp,HJ1.out,HB1,hbx1⟩
    case measure=>simp [intOf];omega
   ·have hz1:(x0==0)=false:=beq_eq_false_iff_ne.2 hz
    gi_wp2
    refine ⟨trivial,hdd _,?_⟩
    refine (callsIn_wide.2 C).mono ?_
    rintro e W1 ⟨rfl,b1⟩
    have X1:=SBox.new W1 25 #[.int .i64 x0,.int .i64 x1,.int .i64 x2]
    have y0:=X1.cell 0 _ rfl
    have y1:=X1.cell 1 _ rfl
    have y2:=X1.cell 2 _ rfl
    have b2:=b1.alloc b1.size (.cells #[.int .i64 x0,.int .i64 x1,.int .i64 x2] 25)
    have HB1:=hB.trans (b2.mono hB.size)
    have hbx1:=boxed_below7 hbx b2
    have hR0:=hY _ (x0,x1,x2) _ (hJ _ _ _ hJ0 b2) (by have:=badTo_len h k';omega)
    rw [← HX.out,← badTo_yes h k' (by rw [HX.out];exact hz),HX.out] at hR0
    obtain ⟨fn,tmps,assign,body,hy,hR⟩:=hR0
    simp only [badX,badA] at hy
    clear hz
    gi_wp2
    (try refine ⟨hdd _,?_⟩)
    refine hR.mono ?_
    rintro e W3 (⟨rfl,hJ3,hk3⟩ | ⟨rfl,hJx3⟩)
    ·have hbx3:Boxed W3 bh 22 (.slice a' h.length cap'):=hk3.2.trans hbx1
     gi_wp2
     go_roundw
     case rel=>exact ⟨k'+1,by omega,by first | go_num | simp,hJ3,HB1.trans hk3.1,hbx3⟩
     case measure=>simp [intOf];omega
    ·gi_wp2
     refine bodyPost_ret (results_none rfl _ _ _) rfl ?_
     exact ⟨⟨_,rfl⟩,.inr ⟨_,badTo_pre h (k'+1) (by omega),hJx3⟩⟩
  ·obtain rfl:k'=h.length:=by omega
   have hE:badTo h h.length=badsL h:=rfl
   rw [hE] at hJ0
   clear hE
   gi_wp2
   go_end0
   exact ⟨⟨_,rfl⟩,.inl ⟨_,rfl,hJ0⟩⟩
theorem bads9_stops (h:List Ev) (w0:World) (a:Option Addr) (cap:Nat) (hT:IsEvs w0 (.slice a h.length cap) h) (bh k:Nat) (w:World) (hW:Below w0.heap.size w0 w) (hbox:Boxed w bh 22 (.slice a h.length cap)) :
 SeqStopsK Fence.wide k Tryz.prog 106 #[.pointer (some ⟨bh,0,none⟩)] (fun x:Bd=>badX x) (KpE w0.heap.size bh) (fun ys=>ys=badsL h) (fun pre=>pre <+: badsL h) h.length w :=
 fun l J Jx W hb hJ _ hY h0=>bads9_in l h w0 a cap hT bh k J Jx (fun pre V V' hj hbb=>hJ pre V V' none hj (grown_below8 none hbb) (fun r e=>by cases e)) hY W (hW.trans (hb.mono hW.size)) (boxed_below7 hbox hb) h0
end Go.Proofs.YtdlcimfifkhllaaGreat
namespace Go.Proofs.YtdlcimfifkhllaaGreat
set_option maxRecDepth 100000
open Go.RowKit Go.Shelf Go.Maps
set_option linter.unusedVariables false
attribute [local go_sem] Oper.semAt_some ba_size
structure ASt (w:World) (v:Value) (n:Nat) (xs:List Value) (W:World):Prop where
 below:Below w.heap.size w W
 size:w.heap.size+1≤W.heap.size
 bv:Boxed W (w.heap.size) 53 v
 row:W.ownsRow w.heap.size 25 3 v n xs
 far:∀ g,v.ownBlock=some g→w.heap.size+1≤g
theorem ASt.turn {w:World} {v:Value} {n:Nat} {xs:List Value} {W W':World} {row:Option Nat} (h:ASt w v n xs W) (hg:W.grownBy W' row) (hr:∀ r,row=some r→w.heap.size+1≤r∧∃ o:Obj,W.heap[r]?=some o∧o.isCells=false):ASt w v n xs W' :=
 ⟨h.below.grown hg (by have:=h.size;omega) (fun r e=>by have:=(hr r e).1;omega),Nat.le_trans h.size hg.size,h.bv.kept hg (fun e=>by have:=(hr _ e.symm).1;omega),owns_turn h.row hg (fun r e=>(hr r e).2),h.far⟩
theorem ASt.bel {w:World} {v:Value} {n:Nat} {xs:List Value} {W W':World} (h:ASt w v n xs W) (hb:Below W.heap.size W W'):ASt w v n xs W':=h.turn (grown_below8 none hb) (fun r e=>by cases e)
theorem ASt.app {w:World} {v v':Value} {n n':Nat} {xs ys:List Value} {W W':World} {tmp:Obj} (h:ASt w v n xs W) (hown:W'.ownsRow w.heap.size 25 3 v' n' ys) (hg:(W.alloc tmp).grownBy W' v.ownBlock) (hat:v'.ownBlock=v.ownBlock∨v'.ownBlock=some (W.heap.size+1)) :
 ASt w v' n' ys (W'.setCell ⟨w.heap.size,0,none⟩ v'):=by
 have hs:=h.size
 have hfar:∀ g,v'.ownBlock=some g→w.heap.size+1≤g:=fun g hv=>by
  rcases hat with e | e
  ·exact h.far g (by rw [← e];exact hv)
  ·rw [hv] at e
   have:=Option.some.inj e
   omega
 have hsz:=hg.size
 rw [World.size_alloc] at hsz
 have hb:Below w.heap.size w W':=(h.below.alloc h.below.size _).grown hg (by simp;omega) (fun r e=>by have:=h.far r e;omega)
 exact ⟨hb.setCell (p:=⟨w.heap.size,0,none⟩) (Nat.le_refl _) _,by simp;omega,((h.bv.alloc _).kept hg (fun e=>by have:=h.far _ e.symm;omega)).set _,owns_keep7 (g:=w.heap.size) (j:=0) hown _ (fun e=>by have:=hfar _ e.symm;omega),hfar⟩
def AInv (w:World) (pre:List Bd) (W:World):Prop:=∃ v,ASt w v pre.length (recV badV pre) W
theorem ownsRow_succ9 {w:World} {B e k n:Nat} {v:Value} {xs:List Value} (h:w.ownsRow B e k v (n+1) xs):∃ g cap,v=.slice (some ⟨g,0,none⟩) (n+1) cap:=by
 rcases h.2 with ⟨_,h0⟩ | ⟨g,cap,cur,rfl,_⟩
 ·omega
 ·exact ⟨g,cap,rfl⟩
set_option maxHeartbeats 4000000 in
theorem pappend9_any (h:List Ev) (w0 w:World) (a:Option Addr) (cap:Nat) (hT:IsEvs w0 (.slice a h.length cap) h) (hn:h.length≤300) (hw:Below w0.heap.size w0 w) (bh:Nat) (hbox:Boxed w bh 22 (.slice a h.length cap)) :
 Calls Tryz.prog 105 #[.slice none 0 0,badsF9 bh] w fun e w'=>BdRow 25 w (badsL h) e w':=by
 obtain ⟨i0,hi,hz0,hz1,hz2⟩:=info_parts bad_info
 have hbl:=hbox.lt
 refine (callsIn_wide (n:=3)).1 ?_
 refine callsIn_of_wp_marks Tryz.func105 rfl trivial ?_ rfl
 simp only [Tryz.ntmps105,List.size_toArray,List.length_cons,List.length_nil,Nat.reduceAdd,Nat.reduceSub,Array.replicate_succ,Array.replicate_zero,List.push_toArray,List.append_toArray,List.nil_append,List.cons_append]
 gi_wp2
 have hS0:ASt w (.slice none 0 0) 0 [] (w.alloc (.cells #[.slice none 0 0] 53)) :=
  ⟨(Below.refl _ w).alloc (Nat.le_refl _) _,by simp,Boxed.new w _ _,World.ownsRow_nil _ _ _ _,fun g hg=>by simp [Value.ownBlock] at hg⟩
 have hbox0:=hbox.alloc (.cells #[.slice none 0 0] 53)
 obtain ⟨W0,hW0⟩:∃ W0,w.alloc (.cells #[.slice none 0 0] 53)=W0:=⟨_,rfl⟩
 have sW0:W0.heap.size=w.heap.size+1:=by rw [← hW0];simp
 change Code.wpIn _ _ _ _ _ _ (w.alloc (.cells #[.slice none 0 0] 53))
 rw [hW0] at hS0 hbox0 ⊢
 clear hW0
 have hws:=hw.size
 refine wpIn_rangeFunc_ownH rfl (by omega) (gf:=106) (lb:=#[.pointer (some ⟨bh,0,none⟩)]) rfl trivial (enters_of Tryz.func106 (by kernel_rfl) rfl)
  (bads9_stops h w0 a cap hT bh (3 - 1) W0 (hw.trans (hS0.below.mono hws)) hbox0) (fun h k=>kpE_t h k) (kpE_b (by omega) (by omega)) (Below.refl _ _) (fun _=>rfl)
  (AInv w) (fun _ _ _=>False)
  (fun s X Y row ⟨v,hs⟩ hg hr=>⟨v,hs.turn hg (fun r e=>⟨by have:=(hr r e).1;omega,(hr r e).2⟩)⟩)
  (fun _=>ownFrom_false _)
  ⟨_,hS0⟩
  (fun x a' W=>∃ Bx,w.heap.size < Bx∧SBox W Bx 25 #[.int .i64 x.1,.int .i64 x.2.1,.int .i64 x.2.2]∧a'={ tmps:=#[.slice none 0 0,badsF9 bh,.pointer (some ⟨w.heap.size,0,none⟩),undef,.slice none 0 0,.pointer (some ⟨Bx,0,none⟩),badsF9 bh,badA x,undef,undef,undef,undef,undef],defers:=[] })
  (fun x a' _ A B row hs hg hr=>by
   obtain ⟨Bx,h1,h2,h4⟩:=hs
   exact ⟨Bx,h1,block_kept h2 hg (fun r e=>(hr r e).2),h4⟩)
  ?assign ?body ?done ?stop
 case assign =>
  rintro l pre x W K ⟨v,hS⟩ hK
  have hsz:=hS.size
  have b1:=(Below.refl W.heap.size W).alloc (Nat.le_refl _) (.cells #[.int .i64 x.1,.int .i64 x.2.1,.int .i64 x.2.2] 25)
  gi_wp2
  refine hK _ _ ((KeepsOthers.alloc _ _).from _) ⟨b1.mono (by omega),Below.heap_alloc W _ _ (by omega)⟩ ⟨v,hS.bel b1⟩ ⟨W.heap.size,by omega,SBox.new W _ _,rfl⟩
 case body =>
  rintro l pre x a' W hl hrec ⟨v,hS⟩ ⟨Bx,hBx,hblk,rfl⟩ hlt
  have HW0:Hid (W0.heap.size=w.heap.size+1):=sW0
  clear sW0 hS0 hl hrec
  have hsz:=hS.size
  obtain ⟨x0,x1,x2⟩:=x
  simp only at hblk
  have q0:=hblk.cell 0 _ rfl
  have q1:=hblk.cell 1 _ rfl
  have q2:=hblk.cell 2 _ rfl
  have cv:=hS.bv.cell
  have hrow:=hS.row
  gi_wp2_with (gi_at_builtin;refine wpListIn_append_own_at _ rfl _ _ 53 rfl w.heap.size 25 i0 (.agg #[.int .i64 0,.int .i64 0,.int .i64 0]) 3 24 Tryz.underlying53 hi hz0 hz1 hz2 rfl (by decide) _ _ _ rfl (hrow.alloc _) ⟨W.heap.size,0,none⟩ 1 1 [.int .i64 x0,.int .i64 x1,.int .i64 x2] rfl rfl ?a1 ?a2 ?a3 ?a4 ?a5 ?_)
  case a1=>intro j u hj;match j,hj with
   | 0,hj=>simp at hj;subst hj;simp [Addr.add]
   | 1,hj=>simp at hj;subst hj;simp [Addr.add]
   | 2,hj=>simp at hj;subst hj;simp [Addr.add]
  case a2=>intro u hu;simp at hu;rcases hu with rfl | rfl | rfl<;>rfl
  case a3=>unfold maxLen;omega
  case a4=>omega
  case a5=>simp;omega
  intro v' W2 hown2 hg2 _ hat2
  obtain ⟨g',cap',rfl⟩:=ownsRow_succ9 hown2
  have hS2:=hS.app hown2 hg2 (by simpa using hat2)
  have bv2:=(hS.bv.alloc (.cells #[.int .i64 x0,.int .i64 x1,.int .i64 x2] 25)).kept hg2 (fun e=>by have:=hS.far _ e.symm;omega)
  have cv2:=bv2.cell
  have gv2:=bv2.frozen
  have KK:=(((KeepsOthers.alloc W (.cells #[.int .i64 x0,.int .i64 x1,.int .i64 x2] 25)).from W0.heap.size).trans ((keeps_row (hrow.alloc (.cells #[.int .i64 x0,.int .i64 x1,.int .i64 x2] 25)) hg2).from _)).trans ((KeepsOthers.setCell W2 ⟨w.heap.size,0,none⟩ (.slice (some ⟨g',0,none⟩) (pre.length+1) cap')).from _)
  have z2:=hg2.size
  rw [World.size_alloc] at z2
  have KP:KpE w0.heap.size bh W (W2.setCell ⟨w.heap.size,0,none⟩ (.slice (some ⟨g',0,none⟩) (pre.length+1) cap')) :=
   ⟨((((Below.refl w0.heap.size W).alloc (by omega) (.cells #[.int .i64 x0,.int .i64 x1,.int .i64 x2] 25)).grown hg2 (by simp;omega) (fun r e=>by have:=hS.far r e;omega)).setCell (p:=⟨w.heap.size,0,none⟩) hws _),(Below.heap_setCell _ _ _ _ (by simp;omega)).trans ((hg2.block bh (by simp;omega) (fun e=>by have:=hS.far _ e.symm;omega)).trans (Below.heap_alloc W _ _ (by omega)))⟩
  have HF:Hid (KeepsFrom W0.heap.size W (W2.setCell ⟨w.heap.size,0,none⟩ (.slice (some ⟨g',0,none⟩) (pre.length+1) cap'))∧KpE w0.heap.size bh W (W2.setCell ⟨w.heap.size,0,none⟩ (.slice (some ⟨g',0,none⟩) (pre.length+1) cap'))∧AInv w (pre++[(x0,x1,x2)]) (W2.setCell ⟨w.heap.size,0,none⟩ (.slice (some ⟨g',0,none⟩) (pre.length+1) cap'))):=by
   refine ⟨KK,KP,.slice (some ⟨g',0,none⟩) (pre.length+1) cap',?_⟩
   rw [recV_snoc,List.length_append]
   exact hS2
  clear hS hS2 hown2 KK KP hrow hblk hat2
  gi_wp2
  exact HF.out
 case done =>
  rintro D ys W hD rfl ⟨v,hS⟩ hK
  have c1:=hS.bv.cell
  have HD:Hid (w.heap.size+1≤D):=by rw [sW0] at hD;exact hD
  clear sW0 hS0 hD
  gi_wp2
  refine ⟨by simp,.inl ⟨_,_,rfl,run_takeDeferred hK,?_⟩⟩
  exact ⟨_,results_tmp rfl _ _ _,_,rfl,hS.below.trans (belowK_b (w:=w) (Nat.le_refl _) _ D _ _ (by have:=HD.out;omega) hK rfl rfl),ownsRow_putObj hS.row _ hK rfl⟩
 case stop =>
  rintro D c pre W hD hSp h hK
  exact h.elim
theorem pcollect9_any (h:List Ev) (w0 w:World) (a:Option Addr) (cap:Nat) (hT:IsEvs w0 (.slice a h.length cap) h) (hn:h.length≤300) (hw:Below w0.heap.size w0 w) (bh:Nat) (hbox:Boxed w bh 22 (.slice a h.length cap)) :
 Calls Tryz.prog 82 #[badsF9 bh] w fun e w'=>BdRow 25 w (badsL h) e w':=by
 have C:=pappend9_any h w0 w a cap hT hn hw bh hbox
 clear hbox hT
 go_enter Tryz.func82,Tryz.ntmps82
 go_wp2_with fail
 refine C.mono ?_
 rintro e w1 ⟨v,rfl,b1,hr⟩
 go_wp2_with fail
 go_ret
 exact ⟨v,rfl,b1,hr⟩
theorem pall9_any (h:List Ev) (v:Value) (w:World) (hT:IsEvs w v h) (hn:h.length≤300) :
 Calls Tryz.prog 51 #[v] w fun e w'=>BdRow 25 w (badsL h) e w':=by
 have hT0:=hT
 obtain ⟨a,cap,rfl,h1,h2,h3,HC⟩:=hT.some_at
 have B:=(Below.refl w.heap.size w).alloc (Nat.le_refl _) (.cells #[.slice a h.length cap] 22)
 have C:=pcollect9_any h w (w.alloc (.cells #[.slice a h.length cap] 22)) a cap hT0 hn B w.heap.size (Boxed.new w _ _)
 clear HC hT hT0
 go_enter Tryz.func51,Tryz.ntmps51
 go_wp2_with fail
 refine (pbads9_any _ _ _ _).mono ?_
 rintro e w2 ⟨rfl,rfl⟩
 go_wp2_with fail
 refine C.mono ?_
 rintro e w1 ⟨v,rfl,b1,hr⟩
 go_wp2_with fail
 go_ret
 exact ⟨v,rfl,B.trans (b1.mono (by simp)),owns_low hr (by simp)⟩
abbrev valF13 (b:Nat):Value:=.func (.func 57) #[] #[.pointer (some ⟨b,0,none⟩)]
theorem pvalues13_any (a:Option Addr) (n cap:Nat) (w:World) :
 Calls Tryz.prog 29 #[.slice a n cap] w fun e w'=>e=.returned (valF13 w.heap.size)∧w'=w.alloc (.cells #[.slice a n cap] 23):=by
 go_enter Tryz.func29,Tryz.ntmps29
 go_wp2_with fail
 go_ret
 exact ⟨rfl,rfl⟩
theorem take_next13 (L:List Int) (k:Nat) (hk:k < L.length):L.take (k+1)=L.take k++[L.getD k 0]:=by
 rw [List.take_succ_eq_append_getElem hk,List.getD_eq_getElem?_getD,List.getElem?_eq_getElem hk]
 rfl
set_option maxHeartbeats 2000000 in
theorem vals13_in (l:Nat) (L:List Int) (w0:World) (a:Option Addr) (cap:Nat) (hT:IsInts w0 (.slice a L.length cap) L) (bh k:Nat) (J Jx:List Int→World→Prop)
 (hY:∀ pre x W,J pre W→pre.length < L.length→YieldAt Fence.wide (k - 1) Tryz.prog l #[.int .i64 x] W fun e W'=>(e=.returned (.bool true)∧J (pre++[x]) W'∧KpE w0.heap.size bh W W')∨(e=.returned (.bool false)∧Jx (pre++[x]) W'))
 (W:World) (hW:Below w0.heap.size w0 W) (hbox:Boxed W bh 23 (.slice a L.length cap)) (h0:J [] W) :
 CallsIn Fence.wide k Tryz.prog 57 #[.func (.yield l) #[] #[],.pointer (some ⟨bh,0,none⟩)] W fun e W'=>(∃ v,e=.returned v) ∧
  ((∃ ys,ys=L∧J ys W')∨(∃ pre,pre <+: L∧Jx pre W')):=by
 have hdd:∀ k:Nat,(Fence.wide.depth.isSome=true→1≤k):=fun k h=>by cases h
 obtain ⟨a',cap',e1,h1,h2,h3,HC⟩:=IsInts.reads hT
 obtain ⟨rfl,rfl⟩:a'=a∧cap'=cap:=by simpa [eq_comm] using e1
 clear e1 hT
 have c0:=hbox.cell
 have HT:Hid (L.take L.length=L):=List.take_length
 obtain ⟨n,hn⟩:∃ n,L.length=n:=⟨_,rfl⟩
 have HN:Hid (L.length=n):=hn
 rw [hn] at c0 h1 h3
 clear hbox
 refine callsIn_of_wp Tryz.func57 rfl trivial ?_ rfl
 simp only [Tryz.ntmps57,List.size_toArray,List.length_cons,List.length_nil,Nat.reduceAdd,Nat.reduceSub,Array.replicate_succ,Array.replicate_zero,List.push_toArray,List.append_toArray,List.nil_append,List.cons_append]
 clear hn
 gi_wp2
 gi_loopw [7] (fun i wr=>∃ k:Nat,k≤n∧i=.int .i64 k∧J (L.take k) wr∧Below w0.heap.size w0 wr) (fun i _=>n - (intOf i).toNat)
 case atStart=>exact ⟨0,Nat.zero_le _,rfl,h0,hW⟩
 case round =>
  obtain ⟨k',hk,rfl,hJ0,hB⟩:=hrel
  by_cases hlt:k' < n
  ·have hk1:k' < L.length:=by have:=HN.out;omega
   have i0:(k':Int) < (n:Int):=by omega
   obtain ⟨bb,off,rfl,HQ⟩:=HC.out (by omega)
   have c1:=HQ.out k' hk1 wr hB
   have hR0:=hY _ (L.getD k' 0) _ hJ0 (by rw [List.length_take];omega)
   rw [← take_next13 L k' hk1] at hR0
   obtain ⟨x,hx⟩:∃ x,L.getD k' 0=x:=⟨_,rfl⟩
   rw [hx] at hR0 c1
   obtain ⟨fn,tmps,assign,body,hy,hR⟩:=hR0
   clear hx hk1
   gi_wp2
   (try refine ⟨hdd _,?_⟩)
   refine hR.mono ?_
   rintro e W3 (⟨rfl,hJ3,hk3⟩ | ⟨rfl,hJx3⟩)
   ·gi_wp2
    go_roundw
    case rel=>exact ⟨k'+1,by omega,by first | go_num | simp,hJ3,hB.trans hk3.1⟩
    case measure=>simp [intOf];omega
   ·gi_wp2
    refine bodyPost_ret (results_none rfl _ _ _) rfl ?_
    exact ⟨⟨_,rfl⟩,.inr ⟨_,List.take_prefix _ _,hJx3⟩⟩
  ·obtain rfl:k'=n:=by omega
   have jq:¬ (k':Int) < (k':Int):=by omega
   have hE:L.take k'=L:=by rw [← HN.out];exact HT.out
   rw [hE] at hJ0
   clear hE
   gi_wp2
   go_end0
   first | exact ⟨⟨_,rfl⟩,.inl ⟨_,rfl,hJ0⟩⟩ | exact ⟨⟨_,rfl⟩,.inl hJ0⟩
theorem vals13_stops (L:List Int) (w0:World) (a:Option Addr) (cap:Nat) (hT:IsInts w0 (.slice a L.length cap) L) (bh k:Nat) (w:World) (hW:Below w0.heap.size w0 w) (hbox:Boxed w bh 23 (.slice a L.length cap)) :
 SeqStopsK Fence.wide k Tryz.prog 57 #[.pointer (some ⟨bh,0,none⟩)] (fun x:Int=>#[Value.int .i64 x]) (KpE w0.heap.size bh) (fun ys=>ys=L) (fun pre=>pre <+: L) L.length w :=
 fun l J Jx W hb hJ _ hY h0=>vals13_in l L w0 a cap hT bh k J Jx hY W (hW.trans (hb.mono hW.size)) (boxed_below7 hbox hb) h0
structure ISt13 (w:World) (v:Value) (n:Nat) (xs:List Value) (W:World):Prop where
 below:Below w.heap.size w W
 size:w.heap.size+1≤W.heap.size
 bv:Boxed W (w.heap.size) 23 v
 row:W.ownsRow w.heap.size 3 1 v n xs
 far:∀ g,v.ownBlock=some g→w.heap.size+1≤g
theorem ISt13.turn {w:World} {v:Value} {n:Nat} {xs:List Value} {W W':World} {row:Option Nat} (h:ISt13 w v n xs W) (hg:W.grownBy W' row) (hr:∀ r,row=some r→w.heap.size+1≤r∧∃ o:Obj,W.heap[r]?=some o∧o.isCells=false):ISt13 w v n xs W' :=
 ⟨h.below.grown hg (by have:=h.size;omega) (fun r e=>by have:=(hr r e).1;omega),Nat.le_trans h.size hg.size,h.bv.kept hg (fun e=>by have:=(hr _ e.symm).1;omega),owns_turn h.row hg (fun r e=>(hr r e).2),h.far⟩
theorem ISt13.app {w:World} {v v':Value} {n n':Nat} {xs ys:List Value} {W W':World} {tmp:Obj} (h:ISt13 w v n xs W) (hown:W'.ownsRow w.heap.size 3 1 v' n' ys) (hg:(W.alloc tmp).grownBy W' v.ownBlock) (hat:v'.ownBlock=v.ownBlock∨v'.ownBlock=some (W.heap.size+1)) :
 ISt13 w v' n' ys (W'.setCell ⟨w.heap.size,0,none⟩ v'):=by
 have hs:=h.size
 have hfar:∀ g,v'.ownBlock=some g→w.heap.size+1≤g:=fun g hv=>by
  rcases hat with e | e
  ·exact h.far g (by rw [← e];exact hv)
  ·rw [hv] at e
   have:=Option.some.inj e
   omega
 have hsz:=hg.size
 rw [World.size_alloc] at hsz
 have hb:Below w.heap.size w W':=(h.below.alloc h.below.size _).grown hg (by simp;omega) (fun r e=>by have:=h.far r e;omega)
 exact ⟨hb.setCell (p:=⟨w.heap.size,0,none⟩) (Nat.le_refl _) _,by simp;omega,((h.bv.alloc _).kept hg (fun e=>by have:=h.far _ e.symm;omega)).set _,owns_keep7 (g:=w.heap.size) (j:=0) hown _ (fun e=>by have:=hfar _ e.symm;omega),hfar⟩
def IInv13 (w:World) (pre:List Int) (W:World):Prop:=∃ v,ISt13 w v pre.length (recV intV pre) W
set_option maxHeartbeats 4000000 in
theorem pappend13_any (L:List Int) (w0 w:World) (a:Option Addr) (cap:Nat) (hT:IsInts w0 (.slice a L.length cap) L) (hn:L.length≤17592186043904) (hw:Below w0.heap.size w0 w) (bh:Nat) (hbox:Boxed w bh 23 (.slice a L.length cap)) :
 Calls Tryz.prog 87 #[.slice none 0 0,valF13 bh] w fun e w'=>InRow w L e w':=by
 obtain ⟨i0,hi,hz0,hz1,hz2⟩:=info_parts int_info10
 have hbl:=hbox.lt
 refine (callsIn_wide (n:=3)).1 ?_
 refine callsIn_of_wp_marks Tryz.func87 rfl trivial ?_ rfl
 simp only [Tryz.ntmps87,List.size_toArray,List.length_cons,List.length_nil,Nat.reduceAdd,Nat.reduceSub,Array.replicate_succ,Array.replicate_zero,List.push_toArray,List.append_toArray,List.nil_append,List.cons_append]
 gi_wp2
 have hS0:ISt13 w (.slice none 0 0) 0 [] (w.alloc (.cells #[.slice none 0 0] 23)) :=
  ⟨(Below.refl _ w).alloc (Nat.le_refl _) _,by simp,Boxed.new w _ _,World.ownsRow_nil _ _ _ _,fun g hg=>by simp [Value.ownBlock] at hg⟩
 have hbox0:=hbox.alloc (.cells #[.slice none 0 0] 23)
 obtain ⟨W0,hW0⟩:∃ W0,w.alloc (.cells #[.slice none 0 0] 23)=W0:=⟨_,rfl⟩
 have sW0:W0.heap.size=w.heap.size+1:=by rw [← hW0];simp
 change Code.wpIn _ _ _ _ _ _ (w.alloc (.cells #[.slice none 0 0] 23))
 rw [hW0] at hS0 hbox0 ⊢
 clear hW0
 have hws:=hw.size
 refine wpIn_rangeFunc_ownH rfl (by omega) (gf:=57) (lb:=#[.pointer (some ⟨bh,0,none⟩)]) rfl trivial (enters_of Tryz.func57 (by kernel_rfl) rfl)
  (vals13_stops L w0 a cap hT bh (3 - 1) W0 (hw.trans (hS0.below.mono hws)) hbox0) (fun h k=>kpE_t h k) (kpE_b (by omega) (by omega)) (Below.refl _ _) (fun _=>rfl)
  (IInv13 w) (fun _ _ _=>False)
  (fun s X Y row ⟨v,hs⟩ hg hr=>⟨v,hs.turn hg (fun r e=>⟨by have:=(hr r e).1;omega,(hr r e).2⟩)⟩)
  (fun _=>ownFrom_false _)
  ⟨_,hS0⟩
  (fun x a' W=>a'={ tmps:=#[.slice none 0 0,valF13 bh,.pointer (some ⟨w.heap.size,0,none⟩),undef,.slice none 0 0,.int .i64 x,valF13 bh,.int .i64 x,undef,undef,undef,undef,undef],defers:=[] })
  (fun x a' _ A B row hs hg hr=>hs)
  ?assign ?body ?done ?stop
 case assign =>
  rintro l pre x W K ⟨v,hS⟩ hK
  gi_wp2
  exact hK _ _ (KeepsFrom.refl _ _) ⟨Below.refl _ _,rfl⟩ ⟨v,hS⟩ rfl
 case body =>
  rintro l pre x a' W hl hrec ⟨v,hS⟩ rfl hlt
  have HW0:Hid (W0.heap.size=w.heap.size+1):=sW0
  clear sW0 hS0 hl hrec
  have hsz:=hS.size
  have cv:=hS.bv.cell
  have hrow:=hS.row
  gi_wp2_with (gi_at_builtin;refine wpListIn_append_own_at _ rfl _ _ 23 rfl w.heap.size 3 i0 (.int .i64 0) 1 8 Tryz.underlying23 hi hz0 hz1 hz2 rfl (by decide) _ _ _ rfl (hrow.alloc _) ⟨W.heap.size,0,none⟩ 1 1 [.int .i64 x] rfl rfl ?a1 ?a2 ?a3 ?a4 ?a5 ?_)
  case a1=>intro j u hj;match j,hj with
   | 0,hj=>simp at hj;subst hj;simp [Addr.add]
  case a2=>intro u hu;simp at hu;rcases hu with rfl;rfl
  case a3=>unfold maxLen;omega
  case a4=>omega
  case a5=>simp;omega
  intro v' W2 hown2 hg2 _ hat2
  obtain ⟨g',cap',rfl⟩:=ownsRow_succ9 hown2
  have hS2:=hS.app hown2 hg2 (by simpa using hat2)
  have bv2:=(hS.bv.alloc (.cells #[.int .i64 x] 3)).kept hg2 (fun e=>by have:=hS.far _ e.symm;omega)
  have cv2:=bv2.cell
  have gv2:=bv2.frozen
  have KK:=(((KeepsOthers.alloc W (.cells #[.int .i64 x] 3)).from W0.heap.size).trans ((keeps_row (hrow.alloc (.cells #[.int .i64 x] 3)) hg2).from _)).trans ((KeepsOthers.setCell W2 ⟨w.heap.size,0,none⟩ (.slice (some ⟨g',0,none⟩) (pre.length+1) cap')).from _)
  have z2:=hg2.size
  rw [World.size_alloc] at z2
  have KP:KpE w0.heap.size bh W (W2.setCell ⟨w.heap.size,0,none⟩ (.slice (some ⟨g',0,none⟩) (pre.length+1) cap')) :=
   ⟨((((Below.refl w0.heap.size W).alloc (by omega) (.cells #[.int .i64 x] 3)).grown hg2 (by simp;omega) (fun r e=>by have:=hS.far r e;omega)).setCell (p:=⟨w.heap.size,0,none⟩) hws _),(Below.heap_setCell _ _ _ _ (by simp;omega)).trans ((hg2.block bh (by simp;omega) (fun e=>by have:=hS.far _ e.symm;omega)).trans (Below.heap_alloc W _ _ (by omega)))⟩
  have HF:Hid (KeepsFrom W0.heap.size W (W2.setCell ⟨w.heap.size,0,none⟩ (.slice (some ⟨g',0,none⟩) (pre.length+1) cap'))∧KpE w0.heap.size bh W (W2.setCell ⟨w.heap.size,0,none⟩ (.slice (some ⟨g',0,none⟩) (pre.length+1) cap'))∧IInv13 w (pre++[x]) (W2.setCell ⟨w.heap.size,0,none⟩ (.slice (some ⟨g',0,none⟩) (pre.length+1) cap'))):=by
   refine ⟨KK,KP,.slice (some ⟨g',0,none⟩) (pre.length+1) cap',?_⟩
   rw [recV_snoc,List.length_append]
   exact hS2
  clear hS hS2 hown2 KK KP hrow hat2
  gi_wp2
  exact HF.out
 case done =>
  rintro D ys W hD rfl ⟨v,hS⟩ hK
  have c1:=hS.bv.cell
  have HD:Hid (w.heap.size+1≤D):=by rw [sW0] at hD;exact hD
  clear sW0 hS0 hD
  gi_wp2
  refine ⟨by simp,.inl ⟨_,_,rfl,run_takeDeferred hK,?_⟩⟩
  exact ⟨_,results_tmp rfl _ _ _,_,rfl,hS.below.trans (belowK_b (w:=w) (Nat.le_refl _) _ D _ _ (by have:=HD.out;omega) hK rfl rfl),ownsRow_putObj hS.row _ hK rfl⟩
 case stop =>
  rintro D c pre W hD hSp h hK
  exact h.elim
theorem pcollect13_any (L:List Int) (w0 w:World) (a:Option Addr) (cap:Nat) (hT:IsInts w0 (.slice a L.length cap) L) (hn:L.length≤17592186043904) (hw:Below w0.heap.size w0 w) (bh:Nat) (hbox:Boxed w bh 23 (.slice a L.length cap)) :
 Calls Tryz.prog 55 #[valF13 bh] w fun e w'=>InRow w L e w':=by
 have C:=pappend13_any L w0 w a cap hT hn hw bh hbox
 clear hbox hT
 go_enter Tryz.func55,Tryz.ntmps55
 go_wp2_with fail
 refine C.mono ?_
 rintro e w1 ⟨v,rfl,b1,hr⟩
 go_wp2_with fail
 go_ret
 exact ⟨v,rfl,b1,hr⟩
theorem psorted13_any (L:List Int) (w0 w:World) (a:Option Addr) (cap:Nat) (hT:IsInts w0 (.slice a L.length cap) L) (hn:L.length≤17592186043904) (hw:Below w0.heap.size w0 w) (bh:Nat) (hbox:Boxed w bh 23 (.slice a L.length cap)) :
 Calls Tryz.prog 28 #[valF13 bh] w fun e w'=>InRow w (L.mergeSort fun x y=>decide (x≤y)) e w':=by
 have C:=pcollect13_any L w0 w a cap hT hn hw bh hbox
 clear hbox hT
 go_enter Tryz.func28,Tryz.ntmps28
 go_wp2_with fail
 refine C.mono ?_
 rintro e w1 ⟨v,rfl,b1,hr⟩
 have CS:=psortI_own hr hn
 obtain ⟨ad,cc,rfl⟩:=own_shape hr
 go_wp2_with fail
 refine CS.mono ?_
 rintro e2 w3 ⟨rfl,hg,hT1⟩
 go_wp2_with fail
 go_ret
 exact ⟨_,rfl,b1.grown hg b1.size (fun j hj=>own_far hr j hj),by rw [List.length_mergeSort];exact hT1⟩
end Go.Proofs.YtdlcimfifkhllaaGreat
namespace Go.Proofs.YtdlcimfifkhllaaGreat
set_option maxRecDepth 100000
open Go.RowKit Go.Maps
set_option linter.unusedVariables false
attribute [local go_sem] ba_size
theorem g_write (h:List Ev) (V:List Nat) (k:Nat):gEd h 1 (vAt V k) (vAt V (k+1))=(wEdge h V k).toList:=by
 unfold gEd wEdge tx
 by_cases e:(ev h (vAt V k)).2.1=(ev h (vAt V (k+1))).2.1
 ·rw [if_pos e,if_pos e];rfl
 ·rw [if_neg e,if_neg e];rfl
set_option maxHeartbeats 4000000 in
theorem pofkey_any (h:List Ev) (w:World) (a:Option Addr) (cap:Nat) (hT:IsEvs w (.slice a h.length cap) h) (hG:∀ x∈h,goodE x) (hl:h.length≤300) (v:Value) (L:List Ed) (W:World) (hS:GSt w (.slice a h.length cap) v L W) (key:List UInt8) (hL:L.length≤800000) :
 Calls Tryz.prog 65 #[.slice a h.length cap,.string ⟨key.toArray⟩,gatF w] W fun e W'=>GRes w (.slice a h.length cap) W (L++keyEdges h key) e W':=by
 have CV:=pvers8_any h (.slice a h.length cap) W key (hT.below hS.below) hG hl
 have CG:=fun (k:Int) (p q:Nat) hp hq L' hL' v' W' hS'=>pgather_any h w a cap hT v' L' W' hS' k p q hp hq hL'
 have CO:=fun (k:Nat) W' (hW':Below w.heap.size w W')=>pouter_any h (.slice a h.length cap) W' (hT.below hW') (k:Int)
 have CR:=fun (i:Nat) hi V' vs' Bv hV' hVl v' L' W' hS' hvs' hL'=>pofread_any h w a cap hT v' L' W' hS' vs' V' Bv hvs' hV' hVl i hi hL'
 have hvl:=vers_len h key
 have hvt:=vers_lt h key
 rw [keyEdges_is]
 obtain ⟨V,hVe⟩:∃ V,versL h key=V:=⟨_,rfl⟩
 rw [hVe] at CV hvl hvt ⊢
 have HVT:Hid (∀ y∈V,y < h.length):=hvt
 obtain ⟨a',cap',e1,h1,h2,h3,HC⟩:=hT.reads
 obtain ⟨rfl,rfl⟩:a'=a∧cap'=cap:=by simpa [eq_comm] using e1
 obtain ⟨n,hn⟩:∃ n,V.length=n:=⟨_,rfl⟩
 have HN:Hid (V.length=n):=hn
 have HVV:Hid (∀ m,m < n→vAt V m < h.length):=fun m hm=>hvt _ (vAt_mem V m (by omega))
 obtain ⟨nh,hnh⟩:∃ nh,h.length=nh:=⟨_,rfl⟩
 clear hVe hvt e1 hT hG
 rw [hn] at hvl ⊢
 simp only [hnh] at *
 clear hn hnh
 go_enter Tryz.func65,Tryz.ntmps65
 go_wp2_with fail
 refine CV.mono ?_
 rintro e1 w1 ⟨vs,rfl,b1,hv1⟩
 rw [List.length_map,HN.out] at hv1
 have hS1:=hS.bel b1
 have F1:=FrG.of_below b1
 clear CV hS
 obtain ⟨adv,cv,rfl⟩:=own_shape hv1
 have jwn:IntKind.i64.wrap ((n:Int) - 1)=(n:Int) - 1:=by rw [IntKind.wrap_i64];omega
 go_wp2_with fail
 go_loopw [15] (fun i wr=>∃ (k:Nat) (v':Value),k≤n - 1∧i=.int .i64 k∧FrG w1 wr∧GSt w (.slice a' nh cap') v' (L++wTo h V k) wr) (fun i _=>n - (intOf i).toNat)
 case atStart=>exact ⟨0,v,Nat.zero_le _,rfl,FrG.refl _,by rw [show wTo h V 0=[] from rfl,List.append_nil];exact hS1⟩
 case round =>
  obtain ⟨k,v',hk,rfl,FK,hSk⟩:=hrel
  have hvk:=FK.owns hv1 (by decide) (by decide)
  by_cases hk2:k+1 < n
  ·have j0:(k:Int) < (n:Int) - 1:=by omega
   obtain ⟨g,cc,e,k1,k2⟩:=own_some hvk (by omega)
   cases e
   have jk:(k:Int) < (n:Int):=by omega
   have jk1:(k:Int)+1 < (n:Int):=by omega
   have jk0:¬ (k:Int)+1 < 0:=by omega
   have jw:IntKind.i64.wrap ((k:Int)+1)=(k:Int)+1:=by rw [IntKind.wrap_i64];omega
   have jt:((k:Int)+1).toNat=k+1:=by omega
   have HX:Hid (wTo h V (k+1)=wTo h V k++gEd h 1 (vAt V k) (vAt V (k+1))):=by show _=_;rw [wTo_next,g_write]
   have hwl:=wTo_len h V k
   go_wp2_with fail
   refine wp_region_any (by kernel_rfl) ?_
   change wpAny _ _ _ _ _ _ _ (World.drew _)
   generalize hwd:World.drew _=wd
   have bd:Below wr.heap.size wr wd:=by rw [← hwd];exact (Below.refl _ _).drew
   have hSd:=hSk.bel bd
   have hvd:=owns_below hvk bd
   have k0:=ver_cell HN.out hvd (by omega:k < n)
   have k9:=ver_cell HN.out hvd hk2
   clear hwd
   refine any_of_C (C:=fun U=>U.cell? ⟨g,k,none⟩=some (.int .i64 (vAt V k:Int))∧U.cell? ⟨g,k+1,none⟩=some (.int .i64 (vAt V (k+1):Int))) 10 _ _ _ _ ?_
   refine takeCC [10] (i:=0) (v:=gatF w) rfl (by kernel_rfl) (by kernel_rfl) (by kernel_rfl) (by kernel_rfl) (by kernel_rfl) (by kernel_rfl) (fun _ _ _ h=>h) (Or.inl ⟨by kernel_rfl,fun U hU=>by obtain ⟨r0,r1⟩:=hU;go_simp⟩) ?_
   refine takeCC [3,4,10] (i:=1) (v:=.slice (some ⟨g,0,none⟩) n cv) rfl (by kernel_rfl) (by kernel_rfl) (by kernel_rfl) (by kernel_rfl) (by kernel_rfl) (by kernel_rfl) (fun _ _ _ h=>h) (Or.inl ⟨by kernel_rfl,fun U hU=>by obtain ⟨r0,r1⟩:=hU;go_simp⟩) ?_
   refine takeCC [3,4,10] (i:=2) (v:=.int .i64 (k:Int)) rfl (by kernel_rfl) (by kernel_rfl) (by kernel_rfl) (by kernel_rfl) (by kernel_rfl) (by kernel_rfl) (fun _ _ _ h=>h) (Or.inl ⟨by kernel_rfl,fun U hU=>by obtain ⟨r0,r1⟩:=hU;go_simp⟩) ?_
   refine takeCC [4,10] (i:=3) (v:=.pointer (some ⟨g,k,none⟩)) rfl (by kernel_rfl) (by kernel_rfl) (by kernel_rfl) (by kernel_rfl) (by kernel_rfl) (by kernel_rfl) (fun _ _ _ h=>h) (Or.inl ⟨by kernel_rfl,fun U hU=>by obtain ⟨r0,r1⟩:=hU;go_simp⟩) ?_
   refine takeCC [10] (i:=4) (v:=.int .i64 (vAt V k:Int)) rfl (by kernel_rfl) (by kernel_rfl) (by kernel_rfl) (by kernel_rfl) (by kernel_rfl) (by kernel_rfl) (fun _ _ _ h=>h) (Or.inl ⟨by kernel_rfl,fun U hU=>by obtain ⟨r0,r1⟩:=hU;go_simp⟩) ?_
   refine takeCC [8,9,10] (i:=5) (v:=.slice (some ⟨g,0,none⟩) n cv) rfl (by kernel_rfl) (by kernel_rfl) (by kernel_rfl) (by kernel_rfl) (by kernel_rfl) (by kernel_rfl) (fun _ _ _ h=>h) (Or.inl ⟨by kernel_rfl,fun U hU=>by obtain ⟨r0,r1⟩:=hU;go_simp⟩) ?_
   refine takeCC [7,8,9,10] (i:=6) (v:=.int .i64 (k:Int)) rfl (by kernel_rfl) (by kernel_rfl) (by kernel_rfl) (by kernel_rfl) (by kernel_rfl) (by kernel_rfl) (fun _ _ _ h=>h) (Or.inl ⟨by kernel_rfl,fun U hU=>by obtain ⟨r0,r1⟩:=hU;go_simp⟩) ?_
   refine takeCC [8,9,10] (i:=7) (v:=.int .i64 ((k:Int)+1)) rfl (by kernel_rfl) (by kernel_rfl) (by kernel_rfl) (by kernel_rfl) (by kernel_rfl) (by kernel_rfl) (fun _ _ _ h=>h) (Or.inl ⟨by kernel_rfl,fun U hU=>by obtain ⟨r0,r1⟩:=hU;go_simp⟩) ?_
   refine takeCC [9,10] (i:=8) (v:=.pointer (some ⟨g,k+1,none⟩)) rfl (by kernel_rfl) (by kernel_rfl) (by kernel_rfl) (by kernel_rfl) (by kernel_rfl) (by kernel_rfl) (fun _ _ _ h=>h) (Or.inl ⟨by kernel_rfl,fun U hU=>by obtain ⟨r0,r1⟩:=hU;go_simp⟩) ?_
   refine takeCC [10] (i:=9) (v:=.int .i64 (vAt V (k+1):Int)) rfl (by kernel_rfl) (by kernel_rfl) (by kernel_rfl) (by kernel_rfl) (by kernel_rfl) (by kernel_rfl) (fun _ _ _ h=>h) (Or.inl ⟨by kernel_rfl,fun U hU=>by obtain ⟨r0,r1⟩:=hU;go_simp⟩) ?_
   refine lastC (by kernel_rfl) (by kernel_rfl) ⟨k0,k9⟩ (of_decide_eq_true (by kernel_rfl)) ?_
   refine any_seqI [10] [_] _ _ _ rfl (by kernel_rfl) ?_
   go_wp2_with fail
   refine (CG 1 (vAt V k) (vAt V (k+1)) (HVV.out k (by omega)) (HVV.out (k+1) hk2) _ (by rw [List.length_append];omega) _ _ hSd).mono ?_
   rintro e4 w4 ⟨rfl,fr4,v4,hS4⟩
   go_wp2_with fail
   refine ⟨⟨k+1,v4,by omega,by first | go_num | simp,FK.trans ((FrG.of_below bd).trans fr4),by rw [HX.out,← List.append_assoc];exact hS4⟩,by simp [intOf];omega⟩
  ·have j0:¬ (k:Int) < (n:Int) - 1:=by omega
   obtain rfl:k=n - 1:=by omega
   have HB:Hid (Below w.heap.size w wr):=hSk.below
   have hwl:=wTo_len h V (n - 1)
   obtain ⟨w2,rfl⟩:∃ w2,w2=wr:=⟨_,rfl⟩
   obtain ⟨L2,hL2⟩:∃ L2,L++wTo h V (n - 1)=L2:=⟨_,rfl⟩
   have HL2:Hid (L++wTo h V (n - 1)=L2):=hL2
   have hL2l:L2.length≤800300:=by rw [← hL2,List.length_append];omega
   rw [hL2] at hSk
   clear hL2 hS1
   go_wp2_with fail
   go_loopw [32] (fun i wr=>∃ (k:Nat) (v':Value),k≤nh∧i=.int .i64 k∧FrG w1 wr∧GSt w (.slice a' nh cap') v' (L2++rTo h key V k) wr) (fun i _=>nh - (intOf i).toNat)
   case atStart=>exact ⟨0,v',Nat.zero_le _,rfl,FK,by rw [show rTo h key V 0=[] from rfl,List.append_nil];exact hSk⟩
   case round =>
    obtain ⟨q,v5,hq,rfl,FQ,hSq⟩:=hrel
    have hvq:=FQ.owns hv1 (by decide) (by decide)
    by_cases hlt:q < nh
    ·have j1:(q:Int) < (nh:Int):=by omega
     obtain ⟨bb,off,rfl,HQ⟩:=HC.out (by omega)
     obtain ⟨_,_,c2,_⟩:=HQ.out q hlt _ hSq.below
     have HR:Hid (rTo h key V (q+1)=rTo h key V q++rOf h key V q):=rTo_next h key V q
     have hrl:=rTo_len h key V q
     by_cases hke:(ev h q).2.2.1=key
     ·rw [hke] at c2
      have D:=CO q _ hSq.below
      rw [outerI_nat] at D
      cases ho:outerB h q with
      | true =>
        rw [ho] at D
        have HO:Hid (rOf h key V q=rdEdges h V q):=by show _=_;unfold rOf readOf;rw [ho,decide_eq_true hke];rfl
        clear ho hke
        go_wp2_with fail
        refine D.mono ?_
        rintro e4 w4 ⟨rfl,b4⟩
        have hS4:=hSq.bel b4
        have hv4:=owns_below hvq b4
        go_wp2_with fail
        refine (CR q hlt V _ _ HVT.out (by have:=HN.out;omega) _ _ _ hS4 (by rw [HN.out];exact hv4) (by rw [List.length_append];omega)).mono ?_
        rintro e5 w5 ⟨rfl,fr5,v6,hS5⟩
        go_wp2_with fail
        refine ⟨⟨q+1,v6,by omega,by first | go_num | simp,FQ.trans ((FrG.of_below b4).trans fr5),by rw [HR.out,HO.out,← List.append_assoc];exact hS5⟩,by simp [intOf];omega⟩
      | false =>
        rw [ho] at D
        have HO:Hid (rOf h key V q=[]):=by show _=_;unfold rOf readOf;rw [ho,Bool.and_false];rfl
        clear ho hke
        go_wp2_with fail
        refine D.mono ?_
        rintro e4 w4 ⟨rfl,b4⟩
        have hS4:=hSq.bel b4
        go_wp2_with fail
        refine ⟨⟨q+1,v5,by omega,by first | go_num | simp,FQ.trans (FrG.of_below b4),by rw [HR.out,HO.out,List.append_nil];exact hS4⟩,by simp [intOf];omega⟩
     ·have HO:Hid (rOf h key V q=[]):=by show _=_;unfold rOf readOf;rw [decide_eq_false hke,Bool.false_and];rfl
      obtain ⟨y,hy⟩:∃ y,(ev h q).2.2.1=y:=⟨_,rfl⟩
      rw [hy] at c2 hke
      have s2:(y==key)=false:=beq_eq_false_iff_ne.2 hke
      have s4:decide (y=key)=false:=decide_eq_false hke
      clear hy
      go_wp2_with fail
      refine ⟨⟨q+1,v5,by omega,by first | go_num | simp,FQ,by rw [HR.out,HO.out,List.append_nil];exact hSq⟩,by simp [intOf];omega⟩
    ·obtain rfl:q=nh:=by omega
     have j1:¬ (q:Int) < (q:Int):=by omega
     go_wp2_with fail
     go_end0
     exact ⟨rfl,F1.trans FQ,v5,by rw [← List.append_assoc,HL2.out];exact hSq⟩
theorem str_cell {W:World} {B g n cc m:Nat} {K:List (List UInt8)} (hn:K.length=n) (h:W.ownsRow B 9 1 (.slice (some ⟨g,0,none⟩) n cc) n (strV K)) (hm:m < n) (hm2:m < K.length):W.cell? ⟨g,m,none⟩=some (.string ⟨K[m].toArray⟩):=by
 have c:=h.cellAt m (by omega)
 rw [c]
 simp [strV,List.getElem?_eq_getElem hm2]
set_option maxHeartbeats 4000000 in
theorem pall10_any (h:List Ev) (v:Value) (w:World) (hT:IsEvs w v h) (hG:∀ x∈h,goodE x) (hl:h.length≤300) :
 Calls Tryz.prog 34 #[v] w fun e w'=>EdRow 71 w (edgesL h) e w':=by
 obtain ⟨a,cap,rfl,h1,h2,h3,HC⟩:=hT.reads
 have B0:Below w.heap.size w ((w.alloc (.cells #[.slice a h.length cap] 22)).alloc (.cells #[.slice none 0 0] 26)):=((Below.refl _ w).alloc (Nat.le_refl _) _).alloc (by simp) _
 have hS0:GSt w (.slice a h.length cap) (.slice none 0 0) (eTo h 0) ((w.alloc (.cells #[.slice a h.length cap] 22)).alloc (.cells #[.slice none 0 0] 26)):=by
  have x1:=Boxed.new (w.alloc (.cells #[.slice a h.length cap] 22)) 26 (.slice none 0 0)
  rw [World.size_alloc] at x1
  exact ⟨B0,by simp,(Boxed.new w 22 (.slice a h.length cap)).alloc _,x1,World.ownsRow_nil _ _ _ _,fun g hg=>by simp [Value.ownBlock] at hg⟩
 have CK:=pkeys8_any h (.slice a h.length cap) _ (hT.below B0) hG hl
 have CF:=fun v' L W' hS' key hL=>pofkey_any h w a cap hT hG hl v' L W' hS' key hL
 have hkl:=keys_len h
 have hel:=eTo_len h 300 hl
 have HEA:Hid (eTo h (keysL h).length=edgesL h):=eTo_all h
 have hnx:=eTo_next h
 obtain ⟨K,hK⟩:∃ K,keysL h=K:=⟨_,rfl⟩
 have HK:Hid (keysL h=K):=hK
 rw [hK] at CK hkl hel HEA
 obtain ⟨n,hn⟩:∃ n,K.length=n:=⟨_,rfl⟩
 have HN:Hid (K.length=n):=hn
 have HEL:Hid (∀ k,k≤K.length→(eTo h k).length≤k*(3*300)):=hel
 have HNX:Hid (∀ k (hk:k < K.length),eTo h (k+1)=eTo h k++keyEdges h K[k]):=fun k hk=>by subst hK;exact hnx k hk
 obtain ⟨nh,hnh⟩:∃ nh,h.length=nh:=⟨_,rfl⟩
 rw [hn] at hkl
 rw [hnh] at CK CF hS0 B0 h1 h3 hl hkl ⊢
 clear hK hnx hel hn hT hG HC hnh
 have p0:=hS0.b0.cell
 go_enter Tryz.func34,Tryz.ntmps34
 go_wp2_with fail
 refine CK.mono ?_
 rintro e1 w1 ⟨vk,rfl,b1,hk1⟩
 rw [HN.out] at hk1
 have hS1:=hS0.bel b1
 clear CK hS0 p0 B0
 obtain ⟨adk,ck,rfl⟩:=own_shape hk1
 go_wp2_with fail
 go_loopw [11] (fun i wr=>∃ (k:Nat) (v':Value),k≤n∧i=.int .i64 k∧FrG w1 wr∧GSt w (.slice a nh cap) v' (eTo h k) wr) (fun i _=>n - (intOf i).toNat)
 case atStart=>exact ⟨0,_,Nat.zero_le _,rfl,FrG.refl _,hS1⟩
 case round =>
  obtain ⟨k,v',hk,rfl,FK,hSk⟩:=hrel
  have hkk:=FK.owns hk1 (by decide) (by decide)
  have c0:=hSk.b0.cell
  by_cases hlt:k < n
  ·have j0:(k:Int) < (n:Int):=by omega
   obtain ⟨g,cc,e,k1,k2⟩:=own_some hkk (by omega)
   cases e
   have hk2:k < K.length:=by rw [HN.out];exact hlt
   have x0:=str_cell HN.out hkk hlt hk2
   have HX:=HNX.out k hk2
   have hel:=HEL.out k (by omega)
   obtain ⟨key,hkey⟩:∃ key,K[k]=key:=⟨_,rfl⟩
   rw [hkey] at x0 HX
   have HXX:Hid (eTo h (k+1)=eTo h k++keyEdges h key):=HX
   clear hkey HX
   go_wp2_with fail
   refine (CF _ _ _ hSk key (by omega)).mono ?_
   rintro e4 w4 ⟨rfl,fr4,v4,hS4⟩
   go_wp2_with fail
   refine ⟨⟨k+1,v4,by omega,by first | go_num | simp,FK.trans fr4,by rw [HXX.out];exact hS4⟩,by simp [intOf];omega⟩
  ·obtain rfl:k=n:=by omega
   have jq:¬ (k:Int) < (k:Int):=by omega
   have q1:=hSk.bv.cell
   obtain ⟨ad,cc,rfl⟩:=own_shape hSk.row
   go_wp2_with fail
   go_ret
   have hr:=hSk.row
   have e:eTo h k=edgesL h:=by rw [← HEA.out,HN.out]
   rw [e] at hr
   refine ⟨_,rfl,hSk.below,?_⟩
   have hlen:(edgesL h).length=(eTo h k).length:=by rw [e]
   rw [← hlen]
   exact hr
def pV13 (o:List Int) (k:Nat):Int→Option Value:=fun x=>(pl13 o k x).map fun (d:Nat)=>Value.int .i64 (d:Int)
theorem pV13_next (o:List Int) (k:Nat):pV13 o (k+1)=updV (pV13 o k) (o.getD k 0) (.int .i64 (k:Int)):=by
 funext x
 simp only [pV13,updV,pl13]
 by_cases e:x=o.getD k 0
 ·rw [if_pos e,if_pos e];rfl
 ·rw [if_neg e,if_neg e]
theorem pV13_at (o:List Int) (hn:o.Nodup) (x:Int) (hx:x∈o):(pV13 o o.length x).getD (.int .i64 0)=.int .i64 (oI (plN o x)):=by
 obtain ⟨p,_,h1,h2⟩:=pl13_pl o hn x hx
 unfold pV13
 rw [h1,h2]
 rfl
set_option maxHeartbeats 8000000 in
theorem pahead13_any (h:List Ev) (vh vo:Value) (level:Int) (o:List Int) (w:World) (hT:IsEvs w vh h) (hG:∀ x∈h,goodE x) (hf:fewH h) (oko:∀ x∈o,okN x) (hO:IsInts w vo o) (hl:o.length≤17592186043904) :
 Calls Tryz.prog 14 #[vh,.int .i64 level,vo] w fun e w'=>e=.returned (.bool (aheadB h level o))∧Below w.heap.size w w':=by
 have hmm:=@run_makeMap Tryz.prog
 have be:=edges_few h
 have hl2:=hf.2
 have bs:=steps_len12 level (edgesL h)
 have bs2:(stepsL level (edgesL h)).length≤1000000:=Nat.le_trans bs (Nat.le_trans (Nat.mul_le_mul (show (edgesL h).length≤240 by omega) (show (edgesL h).length+1≤241 by omega)) (by decide))
 have bn:(nodeL h).length≤301:=nd_len h 301
 have CN:=fun W (hW:Below w.heap.size w W)=>pnodes10_any h vh W (hT.below hW) hG hf
 have CA:=fun W (hW:Below w.heap.size w W)=>pall10_any h vh W (hT.below hW) hG (by omega)
 have CS:=fun ve W (hE:IsEds W ve (edgesL h))=>psteps10_any level (edgesL h) ve W hE (by omega)
 have HST:=Lib.hid (fun s hs=>steps_few13 hf level s hs)
 obtain ⟨ao,co,rfl,o1,o2,o3,HOc⟩:=IsInts.reads hO
 obtain ⟨ah,ch,rfl,_⟩:=hT.some_at
 have CV:=pvalues13_any ao o.length co w
 have BV:=(Below.refl w.heap.size w).alloc (Nat.le_refl _) (.cells #[.slice ao o.length co] 23)
 have CT:=psorted13_any o w (w.alloc (.cells #[.slice ao o.length co] 23)) ao co hO hl BV w.heap.size (Boxed.new w _ _)
 have CE:=fun v1 v2 W (H1:IsInts W v1 (o.mergeSort fun x y=>decide (x≤y))) (H2:IsInts W v2 (nodeL h))=>peqI_any v1 v2 _ _ W H1 H2
 have Hoko:=Lib.hid oko
 obtain ⟨nh,hnh⟩:∃ m,h.length=m:=⟨_,rfl⟩
 rw [hnh] at CN CA ⊢
 obtain ⟨no,hno⟩:∃ no,o.length=no:=⟨_,rfl⟩
 have HNo:=Lib.hid hno
 have hlm:(o.mergeSort fun x y=>decide (x≤y)).length≤17592186043904:=by rw [List.length_mergeSort];exact hl
 have HSn:=Lib.hid (sort_no13 h level o)
 have HSy:=Lib.hid (sort_yes13 h o)
 have HSa:=Lib.hid (ahead_of13 h level o)
 obtain ⟨rr,hrr⟩:∃ rr,aheadB h level o=rr:=⟨_,rfl⟩
 rw [hrr] at HSn HSa ⊢
 obtain ⟨S,hS⟩:∃ S,(o.mergeSort fun x y=>decide (x≤y))=S:=⟨_,rfl⟩
 rw [hS] at CT CE hlm HSn HSy HSa
 rw [hno] at CV BV CT o1 o3 ⊢
 obtain ⟨w1,hw1⟩:∃ W,w.alloc (.cells #[.slice ao no co] 23)=W:=⟨_,rfl⟩
 rw [hw1] at CV BV CT
 clear hS hrr hno hT hO hnh hw1 hl oko bs hf hG
 go_enter Tryz.func14,Tryz.ntmps14
 go_wp2_with fail
 refine CV.mono ?_
 rintro e w1' ⟨rfl,rfl⟩
 go_wp2_with fail
 refine CT.mono ?_
 rintro e w2 ⟨v2,rfl,b2,r2⟩
 have B2:=bel_trans BV b2
 obtain ⟨a2,c2,rfl⟩:=own_shape r2
 have I2:IsInts w2 _ S:=IsRec.own intV_len (by omega) r2 (by omega)
 go_wp2_with fail
 refine (CN _ B2).mono ?_
 rintro e w3 ⟨v3,rfl,b3,r3⟩
 have B3:=bel_trans B2 b3
 obtain ⟨a3,c3,rfl⟩:=own_shape r3
 have I3:IsInts w3 _ (nodeL h):=IsRec.own intV_len (by omega) r3 (by omega)
 have CE2:=CE _ _ w3 (I2.below b3) I3
 clear r2 r3 CE CN CT CV I2 I3
 by_cases hS:S=nodeL h
 ·rw [decide_eq_true hS] at CE2
  obtain ⟨hnd,hin⟩:=HSy.out hS
  have Hat:Hid (∀ s∈stepsL level (edgesL h),I64 s.1∧I64 s.2.1∧(pV13 o no s.1).getD (.int .i64 0)=.int .i64 (oI (plN o s.1))∧(pV13 o no s.2.1).getD (.int .i64 0)=.int .i64 (oI (plN o s.2.1))):=fun s hs=>by
   obtain ⟨n1,n2⟩:=HST.out s hs
   have hr1:=n1
   have hr2:=n2
   unfold nodeL at hr1 hr2
   rw [nd_mem] at hr1 hr2
   have l1:=hr1.1
   have l2:=hr2.1
   refine ⟨by omega,by omega,?_,?_⟩
   ·rw [← HNo.out];exact pV13_at o hnd _ (hin _ n1)
   ·rw [← HNo.out];exact pV13_at o hnd _ (hin _ n2)
  have HR:=Lib.hid (HSa.out hS)
  clear hS hnd hin HSy HSn HSa HST
  go_wp2_with fail
  refine CE2.mono ?_
  rintro e w4 ⟨rfl,b4⟩
  have B4:=bel_trans B3 b4
  obtain ⟨b0,hb0⟩:∃ b0,w4.heap.size=b0:=⟨_,rfl⟩
  have v5:=VMap.made w4
  have g5:=World.grownBy_alloc (w4.alloc (.map #[] 0)) (.cells #[.map (some w4.heap.size)] 61) none
  have v6:=v5.kept g5 (by simp)
  have x6:=Boxed.new (w4.alloc (.map #[] 0)) 61 (.map (some w4.heap.size))
  have B6:=(B4.alloc B4.size (.map #[] 0)).alloc (by have:=B4.size;simp;omega) (.cells #[.map (some w4.heap.size)] 61)
  rw [World.size_alloc] at x6
  have hb1:w.heap.size≤b0:=by have:=B4.size;omega
  clear v5 g5
  go_wp2_with fail
  rw [hb0] at v6 x6 B6
  obtain ⟨w6,hw6⟩:∃ W,(w4.alloc (.map #[] 0)).alloc (.cells #[.map (some b0)] 61)=W:=⟨_,rfl⟩
  rw [hw6] at v6 x6 B6 ⊢
  clear hw6 hb0
  have Hv6:=Lib.hid v6
  have Hx6:=Lib.hid x6
  clear v6 x6 b4 B4
  go_loopw [21] (fun i wr=>∃ k:Nat,k≤no∧i=.int .i64 (k:Int)∧Hid (VMap wr b0 k (pV13 o k))∧Boxed wr (b0+1) 61 (.map (some b0))∧Below w.heap.size w wr) (fun i _=>no - (intOf i).toNat)
  case atStart=>exact ⟨0,Nat.zero_le _,rfl,Hv6.out,Hx6.out,B6⟩
  case round =>
   obtain ⟨k,hk,rfl,HV,hX,hB⟩:=hrel
   by_cases hlt:k < no
   ·have j0:(k:Int) < (no:Int):=by omega
    have hko:k < o.length:=by have:=HNo.out;omega
    obtain ⟨bb,off,rfl,HQ⟩:=HOc.out (by omega)
    have c0:=HQ.out k hko wr hB
    have hI:I64 (o.getD k 0):=by
     have:=Hoko.out _ (show o.getD k 0∈o by rw [getD_at o 0 k hko];exact List.getElem_mem hko)
     unfold okN at this
     exact this
    have HNx:=Lib.hid (pV13_next o k)
    obtain ⟨y,hy⟩:∃ y,o.getD k 0=y:=⟨_,rfl⟩
    rw [hy] at c0 hI HNx
    have hV:=HV.out
    have cX:=hX.cell
    clear hy
    go_wp2_with (at_mapUpdate;refine wpl_store _ rfl _ _ _ 61 rfl 3 Tryz.underlying61 b0 k _ rfl hV (by omega) y hI rfl (.int .i64 (k:Int)) rfl ?_;intro w7 hm7 hg7)
    have HV2:Hid (VMap w7 b0 (k+1) (pV13 o (k+1))):=by show VMap _ _ _ _;rw [HNx.out];exact hm7
    have hX2:=hX.kept hg7 (by simp)
    have hB2:=hB.grown hg7 hB.size (fun j hj=>by cases hj;exact hb1)
    clear hm7 hg7 hV cX hX
    go_wp2_with fail
    refine ⟨⟨k+1,by omega,by first | go_num | simp,HV2,hX2,hB2⟩,by simp [intOf];omega⟩
   ·obtain rfl:no=k:=by omega
    have jq:¬ (no:Int) < (no:Int):=by omega
    have hV:=HV.out
    go_wp2_with fail
    refine (CA _ hB).mono ?_
    rintro e w8 ⟨v8,rfl,b8,r8⟩
    have I8:IsEds w8 v8 (edgesL h):=IsRec.own edV_len (by omega) r8 (by omega)
    obtain ⟨a8,c8,rfl⟩:=own_shape r8
    have CS2:=CS _ w8 I8
    clear r8 I8
    go_wp2_with fail
    refine CS2.mono ?_
    rintro e w9 ⟨v9,L',rfl,b9,r9,s9⟩
    have I9:IsSts w9 v9 (stepsL level (edgesL h)):=IsSts.own r9 s9 (by have:=s9.1;omega)
    have b10:=bel_trans b8 b9
    have CC:=pcontains13_any _ v9 w9 I9 (b0+1) b0 no (pV13 o no) (boxed_below7 hX b10) (hV.bel b10 hV.lt) (fun x=>oI (plN o x)) Hat.out
    obtain ⟨a9,c9,rfl⟩:=own_shape r9
    have HR2:Hid (rr=!(stepsL level (edgesL h)).any (fun s=>decide (oI (plN o s.2.1)≤oI (plN o s.1)))):=HR.out
    obtain ⟨bk,hbk⟩:∃ b,(stepsL level (edgesL h)).any (fun s=>decide (oI (plN o s.2.1)≤oI (plN o s.1)))=b:=⟨_,rfl⟩
    rw [hbk] at CC HR2
    have B9:=bel_trans hB b10
    clear hbk r9 s9 I9 HR
    go_wp2_with fail
    refine CC.mono ?_
    rintro e w10 ⟨rfl,b11⟩
    have B11:=bel_trans B9 b11
    go_wp2_with fail
    go_ret
    exact ⟨by rw [HR2.out];rfl,B11⟩
 ·rw [decide_eq_false hS] at CE2
  have HF:Hid (rr=false):=HSn.out hS
  clear hS
  go_wp2_with fail
  refine CE2.mono ?_
  rintro e w4 ⟨rfl,b4⟩
  have B4:=bel_trans B3 b4
  go_wp2_with fail
  go_ret
  exact ⟨by rw [HF.out];rfl,B4⟩
theorem hold_place (h:List Ev) (k f t I J:Int) (hh:holdsL h (k,f,t,I,J)):(0≤I∧I < (h.length:Int))∧(0≤J∧J < (h.length:Int))∧f≠t:=by
 obtain ⟨a',b',i',j',q1,q2,q3,q4,q5,q6,q7,_⟩:=hh
 simp only at q3 q4 q5
 exact ⟨by omega,by omega,q3⟩
set_option maxHeartbeats 4000000 in
theorem pholds_any (h:List Ev) (v:Value) (w:World) (k f t I J:Int) (hT:IsEvs w v h) :
 Calls Tryz.prog 38 #[v,.agg #[.int .i64 k,.int .i64 f,.int .i64 t,.int .i64 I,.int .i64 J]] w fun e w'=>e=.returned (.bool (holdsC h (k,f,t,I,J)))∧Below w.heap.size w w':=by
 by_cases hI:0≤I∧I < (h.length:Int)
 ·by_cases hJ:0≤J∧J < (h.length:Int)
  ·by_cases hft:f=t
   ·rw [hold_no h _ (fun hh=>(hold_place h _ _ _ _ _ hh).2.2 hft)]
    subst hft
    obtain ⟨a,cap,rfl,_⟩:=hT.some_at
    have CI:=fun W=>pplace_any a h.length cap I W
    have CJ:=fun W=>pplace_any a h.length cap J W
    rw [decide_eq_true hI] at CI
    rw [decide_eq_true hJ] at CJ
    obtain ⟨n,hn⟩:∃ n,h.length=n:=⟨_,rfl⟩
    rw [hn] at CI CJ ⊢
    clear hn hT hI hJ
    have X0:=SBox.new w 71 #[.int .i64 k,.int .i64 f,.int .i64 f,.int .i64 I,.int .i64 J]
    have B0:=(Below.refl w.heap.size w).alloc (Nat.le_refl _) (.cells #[.int .i64 k,.int .i64 f,.int .i64 f,.int .i64 I,.int .i64 J] 71)
    have c1:=X0.cell 1 _ rfl
    have c2:=X0.cell 2 _ rfl
    have c3:=X0.cell 3 _ rfl
    have c4:=X0.cell 4 _ rfl
    clear X0
    go_enter Tryz.func38,Tryz.ntmps38
    go_wp2_with fail
    refine (CI _).mono ?_
    rintro e1 w1 ⟨rfl,rfl⟩
    go_wp2_with fail
    refine (CJ _).mono ?_
    rintro e1 w1 ⟨rfl,rfl⟩
    go_wp2_with fail
    go_ret
    exact ⟨rfl,B0⟩
   ·obtain ⟨i,rfl⟩:∃ i:Nat,I=(i:Int):=⟨I.toNat,by omega⟩
    obtain ⟨j,rfl⟩:∃ j:Nat,J=(j:Int):=⟨J.toNat,by omega⟩
    exact pholds_in h v w k f t i j hT (by omega) (by omega) hft
  ·rw [hold_no h _ (fun hh=>hJ (hold_place h _ _ _ _ _ hh).2.1)]
   obtain ⟨a,cap,rfl,_⟩:=hT.some_at
   have CI:=fun W=>pplace_any a h.length cap I W
   have CJ:=fun W=>pplace_any a h.length cap J W
   rw [decide_eq_true hI] at CI
   rw [decide_eq_false hJ] at CJ
   obtain ⟨n,hn⟩:∃ n,h.length=n:=⟨_,rfl⟩
   rw [hn] at CI CJ ⊢
   clear hn hT hI hJ
   have X0:=SBox.new w 71 #[.int .i64 k,.int .i64 f,.int .i64 t,.int .i64 I,.int .i64 J]
   have B0:=(Below.refl w.heap.size w).alloc (Nat.le_refl _) (.cells #[.int .i64 k,.int .i64 f,.int .i64 t,.int .i64 I,.int .i64 J] 71)
   have c1:=X0.cell 1 _ rfl
   have c2:=X0.cell 2 _ rfl
   have c3:=X0.cell 3 _ rfl
   have c4:=X0.cell 4 _ rfl
   clear X0
   go_enter Tryz.func38,Tryz.ntmps38
   go_wp2_with fail
   refine (CI _).mono ?_
   rintro e1 w1 ⟨rfl,rfl⟩
   go_wp2_with fail
   refine (CJ _).mono ?_
   rintro e1 w1 ⟨rfl,rfl⟩
   go_wp2_with fail
   go_ret
   exact ⟨rfl,B0⟩
 ·rw [hold_no h _ (fun hh=>hI (hold_place h _ _ _ _ _ hh).1)]
  obtain ⟨a,cap,rfl,_⟩:=hT.some_at
  have CI:=fun W=>pplace_any a h.length cap I W
  rw [decide_eq_false hI] at CI
  obtain ⟨n,hn⟩:∃ n,h.length=n:=⟨_,rfl⟩
  rw [hn] at CI ⊢
  clear hn hT hI
  have X0:=SBox.new w 71 #[.int .i64 k,.int .i64 f,.int .i64 t,.int .i64 I,.int .i64 J]
  have B0:=(Below.refl w.heap.size w).alloc (Nat.le_refl _) (.cells #[.int .i64 k,.int .i64 f,.int .i64 t,.int .i64 I,.int .i64 J] 71)
  have c1:=X0.cell 1 _ rfl
  have c2:=X0.cell 2 _ rfl
  have c3:=X0.cell 3 _ rfl
  have c4:=X0.cell 4 _ rfl
  clear X0
  go_enter Tryz.func38,Tryz.ntmps38
  go_wp2_with fail
  refine (CI _).mono ?_
  rintro e1 w1 ⟨rfl,rfl⟩
  go_wp2_with fail
  go_ret
  exact ⟨rfl,B0⟩
end Go.Proofs.YtdlcimfifkhllaaGreat
