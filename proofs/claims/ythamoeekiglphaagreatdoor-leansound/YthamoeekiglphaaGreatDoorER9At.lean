/-
  What cartoucheref09.At answers.
-/
import Derived.Test.YthamoeekiglphaaGreatDoorEL0d
namespace Go.Proofs.YthamoeekiglphaaGreatDoor
set_option maxRecDepth 100000
open Go.RowKit
set_option linter.unusedVariables false
attribute [local go_sem] ba_size
set_option maxHeartbeats 8000000 in
theorem rat_any (h:List Ev) (v:Value) (w:World) (hT:IsEvs w v h) (i:Int) :
 Calls Tryz.prog 92 #[v,.int .i64 i] w fun e w'=>e=.returned (badA (atI h i))∧Below w.heap.size w w':=by
 have CC:=fun W hW=>rcounts_any h v W (hT.below (w':=W) hW) i
 have C1:=fun (t:Int) W hW=>rend_any h v W (hT.below (w':=W) hW) t h.length (Nat.le_refl _)
 have C2:=fun (t:Int) (k:List UInt8) (b:Int) W hW=>rlast_any h v W (hT.below (w':=W) hW) t k b
 have C3:=fun (a b:List UInt8) W hW=>rwriter_any h v W (hT.below (w':=W) hW) a b
 have R0:=SBox.new w 24 #[.int .i64 0,.int .i64 0,.int .i64 0];have B0:=(Below.refl w.heap.size w).alloc (Nat.le_refl _) (.cells #[.int .i64 0,.int .i64 0,.int .i64 0] 24);obtain ⟨a,cap,rfl,h1,h2,h3,HC⟩:=hT.reads;obtain ⟨n,hn⟩:∃ n,h.length=n:=⟨_,rfl⟩;have HN:Hid (h.length=n):=hn;simp only [hn] at CC C1 C2 C3;rw [hn] at h1 h3 ⊢;clear hT hn
 by_cases hc:countI h i=true
 ·rw [hc] at CC
  have hi0:0≤i∧countsB h i.toNat=true:=by
   unfold countI at hc;rw [Bool.and_eq_true,decide_eq_true_eq] at hc;exact hc
  obtain ⟨q,rfl⟩:∃ q:Nat,i=(q:Int):=⟨i.toNat,by omega⟩;have hcq:countsB h q=true:=by have:=hi0.2;rwa [Int.toNat_natCast] at this
  have hA:atI h (q:Int)=atL h q:=by unfold atI;rw [if_pos (by omega),Int.toNat_natCast]
  rw [hA];have hcl:=(counts_iff h q).1 hcq;have hq1:q < h.length:=hcl.1;have hqn:q < n:=by have:=HN.out;omega
  unfold atL;rw [hcq,if_neg (by simp)];obtain ⟨bb,off,rfl,HQ⟩:=HC.out (by omega);obtain ⟨⟨x0,x1,x2,x3⟩,hx⟩:∃ x,ev h q=x:=⟨_,rfl⟩;have HX:Hid (ev h q=(x0,x1,x2,x3)):=hx;simp only [hx];have HQ1:Hid (q < h.length):=hq1;have D1:=C2 x1 x2 (q:Int);rw [last_upto h x1 x2 q (by omega)] at D1;have D2:=C3 x2 x3;clear hx hcl hcq hi0 hc hA hq1;rcases hl:lastN h x1 x2 q with _ | k
  ·rw [hl] at D1
   simp only [oI] at D1 ⊢;clear hl
   by_cases hv:x3=[]
   ·subst hv
    rw [if_pos rfl];go_enter Tryz.func92,Tryz.ntmps92
    go_wp2_with fail
    refine (CC _ B0).mono ?_;rintro e w1 ⟨rfl,b1⟩;have R1:=(R0.below b1).alloc (.cells #[.int .i64 x0,.int .i64 x1,.string ⟨x2.toArray⟩,.string ⟨#[]⟩] 53);have B1':=bel_trans B0 b1;have X1:=SBox.new w1 53 #[.int .i64 x0,.int .i64 x1,.string ⟨x2.toArray⟩,.string ⟨#[]⟩];have B1:=B1'.alloc B1'.size (.cells #[.int .i64 x0,.int .i64 x1,.string ⟨x2.toArray⟩,.string ⟨#[]⟩] 53);have f0:=X1.cell 0 _ rfl;have f1:=X1.cell 1 _ rfl;have f2:=X1.cell 2 _ rfl;have f3:=X1.cell 3 _ rfl;obtain ⟨s0,s1,s2,s3⟩:=HQ.out q HQ1.out _ B1';rw [HX.out] at s0 s1 s2 s3;simp only at s0 s1 s2 s3;go_wp2_with fail
    refine (D1 _ B1).mono ?_;rintro e w2 ⟨rfl,b2⟩;have R2:=R1.below b2;have X2:=X1.below b2;have B2:=bel_trans B1 b2;clear f0 f1 f2 f3;have f0:=X2.cell 0 _ rfl;have f1:=X2.cell 1 _ rfl;have f2:=X2.cell 2 _ rfl;have f3:=X2.cell 3 _ rfl;go_wp2_with fail
    refine (D2 _ B2).mono ?_;rintro e w3 ⟨rfl,b3⟩;have R3:=R2.below b3;have X3:=X2.below b3;have B3:=bel_trans B2 b3;clear f0 f1 f2 f3;have f0:=X3.cell 0 _ rfl;have f1:=X3.cell 1 _ rfl;have f2:=X3.cell 2 _ rfl;have f3:=X3.cell 3 _ rfl;have r0:=R3.cell 0 _ rfl;have r1:=R3.cell 1 _ rfl;have r2:=R3.cell 2 _ rfl;have g0:=R3.frozen 0;have g1:=R3.frozen 1;have g2:=R3.frozen 2;go_wp2_with fail
    generalize hW:World.setCell _ _ _=W;have RW:SBox W w.heap.size 24 #[.int .i64 0,.int .i64 0,.int .i64 0]:=by rw [← hW];exact SBox.put3 R3 _ _ _
    have BZ:Below w.heap.size w W:=by rw [← hW];exact bel_put3 B3 (Nat.le_refl _) _ _ _
    exact bodyPost_ret (v:=badA (0,0,0)) (results_row1 Tryz.results92 _ _ w.heap.size 24 _ (0,0) _ rfl RW Tryz.underlying24 rfl size_bad) rfl ⟨rfl,BZ⟩
   ·have nv:=ne_nil7 x3 hv
    rw [if_neg hv];rcases hw:writerL h x2 x3 with _ | u
    ·rw [hw] at D2
     simp only [oI] at D2 ⊢;clear hw;go_enter Tryz.func92,Tryz.ntmps92
     go_wp2_with fail
     refine (CC _ B0).mono ?_;rintro e w1 ⟨rfl,b1⟩;have R1:=(R0.below b1).alloc (.cells #[.int .i64 x0,.int .i64 x1,.string ⟨x2.toArray⟩,.string ⟨x3.toArray⟩] 53);have B1':=bel_trans B0 b1;have X1:=SBox.new w1 53 #[.int .i64 x0,.int .i64 x1,.string ⟨x2.toArray⟩,.string ⟨x3.toArray⟩];have B1:=B1'.alloc B1'.size (.cells #[.int .i64 x0,.int .i64 x1,.string ⟨x2.toArray⟩,.string ⟨x3.toArray⟩] 53);have f0:=X1.cell 0 _ rfl;have f1:=X1.cell 1 _ rfl;have f2:=X1.cell 2 _ rfl;have f3:=X1.cell 3 _ rfl;obtain ⟨s0,s1,s2,s3⟩:=HQ.out q HQ1.out _ B1';rw [HX.out] at s0 s1 s2 s3;simp only at s0 s1 s2 s3;go_wp2_with fail
     refine (D1 _ B1).mono ?_;rintro e w2 ⟨rfl,b2⟩;have R2:=R1.below b2;have X2:=X1.below b2;have B2:=bel_trans B1 b2;clear f0 f1 f2 f3;have f0:=X2.cell 0 _ rfl;have f1:=X2.cell 1 _ rfl;have f2:=X2.cell 2 _ rfl;have f3:=X2.cell 3 _ rfl;go_wp2_with fail
     refine (D2 _ B2).mono ?_;rintro e w3 ⟨rfl,b3⟩;have R3:=R2.below b3;have X3:=X2.below b3;have B3:=bel_trans B2 b3;clear f0 f1 f2 f3;have f0:=X3.cell 0 _ rfl;have f1:=X3.cell 1 _ rfl;have f2:=X3.cell 2 _ rfl;have f3:=X3.cell 3 _ rfl;have r0:=R3.cell 0 _ rfl;have r1:=R3.cell 1 _ rfl;have r2:=R3.cell 2 _ rfl;have g0:=R3.frozen 0;have g1:=R3.frozen 1;have g2:=R3.frozen 2;go_wp2_with fail
     generalize hW:World.setCell _ _ _=W;have RW:SBox W w.heap.size 24 #[.int .i64 0,.int .i64 0,.int .i64 0]:=by rw [← hW];exact SBox.put3 R3 _ _ _
     have BZ:Below w.heap.size w W:=by rw [← hW];exact bel_put3 B3 (Nat.le_refl _) _ _ _
     exact bodyPost_ret (v:=badA (0,0,0)) (results_row1 Tryz.results92 _ _ w.heap.size 24 _ (0,0) _ rfl RW Tryz.underlying24 rfl size_bad) rfl ⟨rfl,BZ⟩
    ·have hu:u < h.length:=((fi_some _ _ _).1 hw).1
     rw [hw] at D2;simp only [oI] at D2 ⊢;have ju:¬ (u:Int) < 0:=by omega
     have HU:Hid (u < h.length):=hu;have hun:u < n:=by have:=HN.out;omega
     obtain ⟨z1,hz⟩:∃ z,(ev h u).2.1=z:=⟨_,rfl⟩;have HZ:Hid ((ev h u).2.1=z1):=hz;rw [hz];clear hw hu hz
     by_cases d:z1=x1
     ·have e1:(z1==x1)=true:=by rw [d];exact beq_self_eq_true _
      rw [if_pos d];clear d;go_enter Tryz.func92,Tryz.ntmps92
      go_wp2_with fail
      refine (CC _ B0).mono ?_;rintro e w1 ⟨rfl,b1⟩;have R1:=(R0.below b1).alloc (.cells #[.int .i64 x0,.int .i64 x1,.string ⟨x2.toArray⟩,.string ⟨x3.toArray⟩] 53);have B1':=bel_trans B0 b1;have X1:=SBox.new w1 53 #[.int .i64 x0,.int .i64 x1,.string ⟨x2.toArray⟩,.string ⟨x3.toArray⟩];have B1:=B1'.alloc B1'.size (.cells #[.int .i64 x0,.int .i64 x1,.string ⟨x2.toArray⟩,.string ⟨x3.toArray⟩] 53);have f0:=X1.cell 0 _ rfl;have f1:=X1.cell 1 _ rfl;have f2:=X1.cell 2 _ rfl;have f3:=X1.cell 3 _ rfl;obtain ⟨s0,s1,s2,s3⟩:=HQ.out q HQ1.out _ B1';rw [HX.out] at s0 s1 s2 s3;simp only at s0 s1 s2 s3;go_wp2_with fail
      refine (D1 _ B1).mono ?_;rintro e w2 ⟨rfl,b2⟩;have R2:=R1.below b2;have X2:=X1.below b2;have B2:=bel_trans B1 b2;clear f0 f1 f2 f3;have f0:=X2.cell 0 _ rfl;have f1:=X2.cell 1 _ rfl;have f2:=X2.cell 2 _ rfl;have f3:=X2.cell 3 _ rfl;go_wp2_with fail
      refine (D2 _ B2).mono ?_;rintro e w3 ⟨rfl,b3⟩;have R3:=R2.below b3;have X3:=X2.below b3;have B3:=bel_trans B2 b3;clear f0 f1 f2 f3;have f0:=X3.cell 0 _ rfl;have f1:=X3.cell 1 _ rfl;have f2:=X3.cell 2 _ rfl;have f3:=X3.cell 3 _ rfl;have m1:=(HQ.out u HU.out _ B3).2.1;rw [HZ.out] at m1;go_wp2_with fail
      go_quiet (fail)
      have R13:=R3.below (below_drewN (Below.refl _ w3) nq);have B13:=below_drewN B3 nq;have X13:=X3.below (below_drewN (Below.refl _ w3) nq);clear f0 f1 f2 f3;have f0:=X13.cell 0 _ rfl;have f1:=X13.cell 1 _ rfl;have f2:=X13.cell 2 _ rfl;have f3:=X13.cell 3 _ rfl;have r0:=R13.cell 0 _ rfl;have r1:=R13.cell 1 _ rfl;have r2:=R13.cell 2 _ rfl;have g0:=R13.frozen 0;have g1:=R13.frozen 1;have g2:=R13.frozen 2;go_wp2_with fail
      generalize hW:World.setCell _ _ _=W;have RW:SBox W w.heap.size 24 #[.int .i64 4,.int .i64 (q:Int),.int .i64 (u:Int)]:=by rw [← hW];exact SBox.put3 R13 _ _ _
      have BZ:Below w.heap.size w W:=by rw [← hW];exact bel_put3 B13 (Nat.le_refl _) _ _ _
      exact bodyPost_ret (v:=badA (4,(q:Int),(u:Int))) (results_row1 Tryz.results92 _ _ w.heap.size 24 _ (0,0) _ rfl RW Tryz.underlying24 rfl size_bad) rfl ⟨rfl,BZ⟩
     ·have e1:(z1==x1)=false:=beq_eq_false_iff_ne.2 d
      rw [if_neg d];have D3:=C1 z1;unfold commL;rw [HN.out];rcases he:endL h z1 n with _ | e
      ·rw [he] at D3
       simp only [oI] at D3 ⊢;clear he;go_enter Tryz.func92,Tryz.ntmps92
       go_wp2_with fail
       refine (CC _ B0).mono ?_;rintro e w1 ⟨rfl,b1⟩;have R1:=(R0.below b1).alloc (.cells #[.int .i64 x0,.int .i64 x1,.string ⟨x2.toArray⟩,.string ⟨x3.toArray⟩] 53);have B1':=bel_trans B0 b1;have X1:=SBox.new w1 53 #[.int .i64 x0,.int .i64 x1,.string ⟨x2.toArray⟩,.string ⟨x3.toArray⟩];have B1:=B1'.alloc B1'.size (.cells #[.int .i64 x0,.int .i64 x1,.string ⟨x2.toArray⟩,.string ⟨x3.toArray⟩] 53);have f0:=X1.cell 0 _ rfl;have f1:=X1.cell 1 _ rfl;have f2:=X1.cell 2 _ rfl;have f3:=X1.cell 3 _ rfl;obtain ⟨s0,s1,s2,s3⟩:=HQ.out q HQ1.out _ B1';rw [HX.out] at s0 s1 s2 s3;simp only at s0 s1 s2 s3;go_wp2_with fail
       refine (D1 _ B1).mono ?_;rintro e w2 ⟨rfl,b2⟩;have R2:=R1.below b2;have X2:=X1.below b2;have B2:=bel_trans B1 b2;clear f0 f1 f2 f3;have f0:=X2.cell 0 _ rfl;have f1:=X2.cell 1 _ rfl;have f2:=X2.cell 2 _ rfl;have f3:=X2.cell 3 _ rfl;go_wp2_with fail
       refine (D2 _ B2).mono ?_;rintro e w3 ⟨rfl,b3⟩;have R3:=R2.below b3;have X3:=X2.below b3;have B3:=bel_trans B2 b3;clear f0 f1 f2 f3;have f0:=X3.cell 0 _ rfl;have f1:=X3.cell 1 _ rfl;have f2:=X3.cell 2 _ rfl;have f3:=X3.cell 3 _ rfl;have m1:=(HQ.out u HU.out _ B3).2.1;rw [HZ.out] at m1;go_wp2_with fail
       go_quiet (fail)
       have R13:=R3.below (below_drewN (Below.refl _ w3) nq);have B13:=below_drewN B3 nq;have X13:=X3.below (below_drewN (Below.refl _ w3) nq);clear f0 f1 f2 f3;have f0:=X13.cell 0 _ rfl;have f1:=X13.cell 1 _ rfl;have f2:=X13.cell 2 _ rfl;have f3:=X13.cell 3 _ rfl;have m11:=(HQ.out u HU.out _ B13).2.1;rw [HZ.out] at m11;go_wp2_with fail
       refine (D3 _ B13).mono ?_;rintro e' w4 ⟨rfl,b4⟩;have R4:=R13.below b4;have X4:=X13.below b4;have B4:=bel_trans B13 b4;clear f0 f1 f2 f3;have f0:=X4.cell 0 _ rfl;have f1:=X4.cell 1 _ rfl;have f2:=X4.cell 2 _ rfl;have f3:=X4.cell 3 _ rfl;have r0:=R4.cell 0 _ rfl;have r1:=R4.cell 1 _ rfl;have r2:=R4.cell 2 _ rfl;have g0:=R4.frozen 0;have g1:=R4.frozen 1;have g2:=R4.frozen 2;go_wp2_with fail
       generalize hW:World.setCell _ _ _=W;have RW:SBox W w.heap.size 24 #[.int .i64 1,.int .i64 (q:Int),.int .i64 (u:Int)]:=by rw [← hW];exact SBox.put3 R4 _ _ _
       have BZ:Below w.heap.size w W:=by rw [← hW];exact bel_put3 B4 (Nat.le_refl _) _ _ _
       exact bodyPost_ret (v:=badA (1,(q:Int),(u:Int))) (results_row1 Tryz.results92 _ _ w.heap.size 24 _ (0,0) _ rfl RW Tryz.underlying24 rfl size_bad) rfl ⟨rfl,BZ⟩
      ·have hel:e < h.length:=by have:=((fi_some _ _ _).1 he).1;have:=HN.out;omega
       have HE:Hid (e < h.length):=hel;have hen:e < n:=by have:=HN.out;omega
       have je:¬ (e:Int) < 0:=by omega
       rw [he] at D3;simp only [oI] at D3 ⊢;obtain ⟨y0,hy⟩:∃ z,(ev h e).1=z:=⟨_,rfl⟩;have HY:Hid ((ev h e).1=y0):=hy;rw [hy];clear he hel hy
       by_cases d4:y0=4
       ·have e4:(y0 != 4)=false:=by rw [d4];rfl
        rw [if_pos d4];simp only;have D4:=C2 z1 x2 (e:Int);have hlm:lastL h z1 x2 (e:Int)=lastN h z1 x2 (min n e):=by unfold lastL;rw [HN.out,Int.toNat_natCast]
        rw [hlm] at D4;clear d4 hlm;obtain ⟨o,ho⟩:∃ o,lastN h z1 x2 (min n e)=o:=⟨_,rfl⟩;rw [ho] at D4 ⊢;clear ho
        by_cases d5:o=some u
        ·have e5:((oI o) != (u:Int))=false:=by rw [d5];simp [oI]
         have e6:oI o=(u:Int):=by rw [d5];rfl
         rw [if_pos d5];rw [e6] at D4;clear d5 e5 e6;go_enter Tryz.func92,Tryz.ntmps92
         go_wp2_with fail
         refine (CC _ B0).mono ?_;rintro e w1 ⟨rfl,b1⟩;have R1:=(R0.below b1).alloc (.cells #[.int .i64 x0,.int .i64 x1,.string ⟨x2.toArray⟩,.string ⟨x3.toArray⟩] 53);have B1':=bel_trans B0 b1;have X1:=SBox.new w1 53 #[.int .i64 x0,.int .i64 x1,.string ⟨x2.toArray⟩,.string ⟨x3.toArray⟩];have B1:=B1'.alloc B1'.size (.cells #[.int .i64 x0,.int .i64 x1,.string ⟨x2.toArray⟩,.string ⟨x3.toArray⟩] 53);have f0:=X1.cell 0 _ rfl;have f1:=X1.cell 1 _ rfl;have f2:=X1.cell 2 _ rfl;have f3:=X1.cell 3 _ rfl;obtain ⟨s0,s1,s2,s3⟩:=HQ.out q HQ1.out _ B1';rw [HX.out] at s0 s1 s2 s3;simp only at s0 s1 s2 s3;go_wp2_with fail
         refine (D1 _ B1).mono ?_;rintro e w2 ⟨rfl,b2⟩;have R2:=R1.below b2;have X2:=X1.below b2;have B2:=bel_trans B1 b2;clear f0 f1 f2 f3;have f0:=X2.cell 0 _ rfl;have f1:=X2.cell 1 _ rfl;have f2:=X2.cell 2 _ rfl;have f3:=X2.cell 3 _ rfl;go_wp2_with fail
         refine (D2 _ B2).mono ?_;rintro e w3 ⟨rfl,b3⟩;have R3:=R2.below b3;have X3:=X2.below b3;have B3:=bel_trans B2 b3;clear f0 f1 f2 f3;have f0:=X3.cell 0 _ rfl;have f1:=X3.cell 1 _ rfl;have f2:=X3.cell 2 _ rfl;have f3:=X3.cell 3 _ rfl;have m1:=(HQ.out u HU.out _ B3).2.1;rw [HZ.out] at m1;go_wp2_with fail
         go_quiet (fail)
         have R13:=R3.below (below_drewN (Below.refl _ w3) nq);have B13:=below_drewN B3 nq;have X13:=X3.below (below_drewN (Below.refl _ w3) nq);clear f0 f1 f2 f3;have f0:=X13.cell 0 _ rfl;have f1:=X13.cell 1 _ rfl;have f2:=X13.cell 2 _ rfl;have f3:=X13.cell 3 _ rfl;have m11:=(HQ.out u HU.out _ B13).2.1;rw [HZ.out] at m11;go_wp2_with fail
         refine (D3 _ B13).mono ?_;rintro e' w4 ⟨rfl,b4⟩;have R4:=R13.below b4;have X4:=X13.below b4;have B4:=bel_trans B13 b4;clear f0 f1 f2 f3;have f0:=X4.cell 0 _ rfl;have f1:=X4.cell 1 _ rfl;have f2:=X4.cell 2 _ rfl;have f3:=X4.cell 3 _ rfl;have k0:=(HQ.out e HE.out _ B4).1;rw [HY.out] at k0;have k1:=(HQ.out u HU.out _ B4).2.1;rw [HZ.out] at k1;have S0:(fun V=>Below w4.heap.size w4 V∧V.cell? ⟨bb,off+u*4+1,none⟩=some (.int .i64 z1)∧V.cell? ⟨w1.heap.size,2,none⟩=some (.string ⟨x2.toArray⟩)) (w4).drew:=⟨(Below.refl _ _).drew,k1,f2⟩;have keepS:∀ V V':World,(fun V=>Below w4.heap.size w4 V∧V.cell? ⟨bb,off+u*4+1,none⟩=some (.int .i64 z1)∧V.cell? ⟨w1.heap.size,2,none⟩=some (.string ⟨x2.toArray⟩)) V→Below V.heap.size V V'→(fun V=>Below w4.heap.size w4 V∧V.cell? ⟨bb,off+u*4+1,none⟩=some (.int .i64 z1)∧V.cell? ⟨w1.heap.size,2,none⟩=some (.string ⟨x2.toArray⟩)) V':=fun V V' ⟨a,b,c⟩ d=>⟨bel_trans a d,cell_bel d b,cell_bel d c⟩
         go_wp2_with fail
         go_region_held3 (fun V=>Below w4.heap.size w4 V∧V.cell? ⟨bb,off+u*4+1,none⟩=some (.int .i64 z1)∧V.cell? ⟨w1.heap.size,2,none⟩=some (.string ⟨x2.toArray⟩)) (first | exact S0 | exact keepS _ _ (by assumption) (by assumption)) (first | (go_at_call 119;refine (D4 _ (bel_trans B4 (And.left (by assumption)))).mono ?_;rintro e' w' ⟨rfl,b8⟩))
         rename_i hHeld8
         have s8:=hHeld8.1;have R5:=R4.below s8;have B5:=bel_trans B4 s8;have r0:=R5.cell 0 _ rfl;have r1:=R5.cell 1 _ rfl;have r2:=R5.cell 2 _ rfl;have g0:=R5.frozen 0;have g1:=R5.frozen 1;have g2:=R5.frozen 2;go_wp2_with fail
         generalize hW:World.setCell _ _ _=W;have RW:SBox W w.heap.size 24 #[.int .i64 0,.int .i64 0,.int .i64 0]:=by rw [← hW];exact SBox.put3 R5 _ _ _
         have BZ:Below w.heap.size w W:=by rw [← hW];exact bel_put3 B5 (Nat.le_refl _) _ _ _
         exact bodyPost_ret (v:=badA (0,0,0)) (results_row1 Tryz.results92 _ _ w.heap.size 24 _ (0,0) _ rfl RW Tryz.underlying24 rfl size_bad) rfl ⟨rfl,BZ⟩
        ·have e5:oI o≠(u:Int):=by
          intro hh;rcases o with _ | o
          ·simp only [oI] at hh;omega
          ·simp only [oI] at hh;exact d5 (by congr 1;omega)
         rw [if_neg d5];change Calls _ _ _ _ (fun e w'=>e=.returned (badA (2,(q:Int),oI o))∧Below w.heap.size w w');obtain ⟨m,hm⟩:∃ m,oI o=m:=⟨_,rfl⟩;rw [hm] at D4 e5 ⊢;have e7:(m != (u:Int))=true:=bne_iff_ne.2 e5;clear d5 e5 hm;go_enter Tryz.func92,Tryz.ntmps92
         go_wp2_with fail
         refine (CC _ B0).mono ?_;rintro e w1 ⟨rfl,b1⟩;have R1:=(R0.below b1).alloc (.cells #[.int .i64 x0,.int .i64 x1,.string ⟨x2.toArray⟩,.string ⟨x3.toArray⟩] 53);have B1':=bel_trans B0 b1;have X1:=SBox.new w1 53 #[.int .i64 x0,.int .i64 x1,.string ⟨x2.toArray⟩,.string ⟨x3.toArray⟩];have B1:=B1'.alloc B1'.size (.cells #[.int .i64 x0,.int .i64 x1,.string ⟨x2.toArray⟩,.string ⟨x3.toArray⟩] 53);have f0:=X1.cell 0 _ rfl;have f1:=X1.cell 1 _ rfl;have f2:=X1.cell 2 _ rfl;have f3:=X1.cell 3 _ rfl;obtain ⟨s0,s1,s2,s3⟩:=HQ.out q HQ1.out _ B1';rw [HX.out] at s0 s1 s2 s3;simp only at s0 s1 s2 s3;go_wp2_with fail
         refine (D1 _ B1).mono ?_;rintro e w2 ⟨rfl,b2⟩;have R2:=R1.below b2;have X2:=X1.below b2;have B2:=bel_trans B1 b2;clear f0 f1 f2 f3;have f0:=X2.cell 0 _ rfl;have f1:=X2.cell 1 _ rfl;have f2:=X2.cell 2 _ rfl;have f3:=X2.cell 3 _ rfl;go_wp2_with fail
         refine (D2 _ B2).mono ?_;rintro e w3 ⟨rfl,b3⟩;have R3:=R2.below b3;have X3:=X2.below b3;have B3:=bel_trans B2 b3;clear f0 f1 f2 f3;have f0:=X3.cell 0 _ rfl;have f1:=X3.cell 1 _ rfl;have f2:=X3.cell 2 _ rfl;have f3:=X3.cell 3 _ rfl;have m1:=(HQ.out u HU.out _ B3).2.1;rw [HZ.out] at m1;go_wp2_with fail
         go_quiet (fail)
         have R13:=R3.below (below_drewN (Below.refl _ w3) nq);have B13:=below_drewN B3 nq;have X13:=X3.below (below_drewN (Below.refl _ w3) nq);clear f0 f1 f2 f3;have f0:=X13.cell 0 _ rfl;have f1:=X13.cell 1 _ rfl;have f2:=X13.cell 2 _ rfl;have f3:=X13.cell 3 _ rfl;have m11:=(HQ.out u HU.out _ B13).2.1;rw [HZ.out] at m11;go_wp2_with fail
         refine (D3 _ B13).mono ?_;rintro e' w4 ⟨rfl,b4⟩;have R4:=R13.below b4;have X4:=X13.below b4;have B4:=bel_trans B13 b4;clear f0 f1 f2 f3;have f0:=X4.cell 0 _ rfl;have f1:=X4.cell 1 _ rfl;have f2:=X4.cell 2 _ rfl;have f3:=X4.cell 3 _ rfl;have k0:=(HQ.out e HE.out _ B4).1;rw [HY.out] at k0;have k1:=(HQ.out u HU.out _ B4).2.1;rw [HZ.out] at k1;have S0:(fun V=>Below w4.heap.size w4 V∧V.cell? ⟨bb,off+u*4+1,none⟩=some (.int .i64 z1)∧V.cell? ⟨w1.heap.size,2,none⟩=some (.string ⟨x2.toArray⟩)) (w4).drew:=⟨(Below.refl _ _).drew,k1,f2⟩;have keepS:∀ V V':World,(fun V=>Below w4.heap.size w4 V∧V.cell? ⟨bb,off+u*4+1,none⟩=some (.int .i64 z1)∧V.cell? ⟨w1.heap.size,2,none⟩=some (.string ⟨x2.toArray⟩)) V→Below V.heap.size V V'→(fun V=>Below w4.heap.size w4 V∧V.cell? ⟨bb,off+u*4+1,none⟩=some (.int .i64 z1)∧V.cell? ⟨w1.heap.size,2,none⟩=some (.string ⟨x2.toArray⟩)) V':=fun V V' ⟨a,b,c⟩ d=>⟨bel_trans a d,cell_bel d b,cell_bel d c⟩
         go_wp2_with fail
         go_region_held3 (fun V=>Below w4.heap.size w4 V∧V.cell? ⟨bb,off+u*4+1,none⟩=some (.int .i64 z1)∧V.cell? ⟨w1.heap.size,2,none⟩=some (.string ⟨x2.toArray⟩)) (first | exact S0 | exact keepS _ _ (by assumption) (by assumption)) (first | (go_at_call 119;refine (D4 _ (bel_trans B4 (And.left (by assumption)))).mono ?_;rintro e' w' ⟨rfl,b8⟩))
         rename_i hHeld8
         have s8:=hHeld8.1;have R5:=R4.below s8;have B5:=bel_trans B4 s8;have r0:=R5.cell 0 _ rfl;have r1:=R5.cell 1 _ rfl;have r2:=R5.cell 2 _ rfl;have g0:=R5.frozen 0;have g1:=R5.frozen 1;have g2:=R5.frozen 2;go_wp2_with fail
         generalize hW:World.setCell _ _ _=W;have RW:SBox W w.heap.size 24 #[.int .i64 2,.int .i64 (q:Int),.int .i64 m]:=by rw [← hW];exact SBox.put3 R5 _ _ _
         have BZ:Below w.heap.size w W:=by rw [← hW];exact bel_put3 B5 (Nat.le_refl _) _ _ _
         exact bodyPost_ret (v:=badA (2,(q:Int),m)) (results_row1 Tryz.results92 _ _ w.heap.size 24 _ (0,0) _ rfl RW Tryz.underlying24 rfl size_bad) rfl ⟨rfl,BZ⟩
       ·have e4:(y0 != 4)=true:=bne_iff_ne.2 d4
        rw [if_neg d4];simp only;go_enter Tryz.func92,Tryz.ntmps92
        go_wp2_with fail
        refine (CC _ B0).mono ?_;rintro e w1 ⟨rfl,b1⟩;have R1:=(R0.below b1).alloc (.cells #[.int .i64 x0,.int .i64 x1,.string ⟨x2.toArray⟩,.string ⟨x3.toArray⟩] 53);have B1':=bel_trans B0 b1;have X1:=SBox.new w1 53 #[.int .i64 x0,.int .i64 x1,.string ⟨x2.toArray⟩,.string ⟨x3.toArray⟩];have B1:=B1'.alloc B1'.size (.cells #[.int .i64 x0,.int .i64 x1,.string ⟨x2.toArray⟩,.string ⟨x3.toArray⟩] 53);have f0:=X1.cell 0 _ rfl;have f1:=X1.cell 1 _ rfl;have f2:=X1.cell 2 _ rfl;have f3:=X1.cell 3 _ rfl;obtain ⟨s0,s1,s2,s3⟩:=HQ.out q HQ1.out _ B1';rw [HX.out] at s0 s1 s2 s3;simp only at s0 s1 s2 s3;go_wp2_with fail
        refine (D1 _ B1).mono ?_;rintro e w2 ⟨rfl,b2⟩;have R2:=R1.below b2;have X2:=X1.below b2;have B2:=bel_trans B1 b2;clear f0 f1 f2 f3;have f0:=X2.cell 0 _ rfl;have f1:=X2.cell 1 _ rfl;have f2:=X2.cell 2 _ rfl;have f3:=X2.cell 3 _ rfl;go_wp2_with fail
        refine (D2 _ B2).mono ?_;rintro e w3 ⟨rfl,b3⟩;have R3:=R2.below b3;have X3:=X2.below b3;have B3:=bel_trans B2 b3;clear f0 f1 f2 f3;have f0:=X3.cell 0 _ rfl;have f1:=X3.cell 1 _ rfl;have f2:=X3.cell 2 _ rfl;have f3:=X3.cell 3 _ rfl;have m1:=(HQ.out u HU.out _ B3).2.1;rw [HZ.out] at m1;go_wp2_with fail
        go_quiet (fail)
        have R13:=R3.below (below_drewN (Below.refl _ w3) nq);have B13:=below_drewN B3 nq;have X13:=X3.below (below_drewN (Below.refl _ w3) nq);clear f0 f1 f2 f3;have f0:=X13.cell 0 _ rfl;have f1:=X13.cell 1 _ rfl;have f2:=X13.cell 2 _ rfl;have f3:=X13.cell 3 _ rfl;have m11:=(HQ.out u HU.out _ B13).2.1;rw [HZ.out] at m11;go_wp2_with fail
        refine (D3 _ B13).mono ?_;rintro e' w4 ⟨rfl,b4⟩;have R4:=R13.below b4;have X4:=X13.below b4;have B4:=bel_trans B13 b4;clear f0 f1 f2 f3;have f0:=X4.cell 0 _ rfl;have f1:=X4.cell 1 _ rfl;have f2:=X4.cell 2 _ rfl;have f3:=X4.cell 3 _ rfl;have k0:=(HQ.out e HE.out _ B4).1;rw [HY.out] at k0;have k1:=(HQ.out u HU.out _ B4).2.1;rw [HZ.out] at k1;have r0:=R4.cell 0 _ rfl;have r1:=R4.cell 1 _ rfl;have r2:=R4.cell 2 _ rfl;have g0:=R4.frozen 0;have g1:=R4.frozen 1;have g2:=R4.frozen 2;go_wp2_with fail
        generalize hW:World.setCell _ _ _=W;have RW:SBox W w.heap.size 24 #[.int .i64 1,.int .i64 (q:Int),.int .i64 (u:Int)]:=by rw [← hW];exact SBox.put3 R4 _ _ _
        have BZ:Below w.heap.size w W:=by rw [← hW];exact bel_put3 B4 (Nat.le_refl _) _ _ _
        exact bodyPost_ret (v:=badA (1,(q:Int),(u:Int))) (results_row1 Tryz.results92 _ _ w.heap.size 24 _ (0,0) _ rfl RW Tryz.underlying24 rfl size_bad) rfl ⟨rfl,BZ⟩
  ·have hk:=((lastN_some _ _ _ _ _).1 hl).1
   have HK:Hid (k < h.length):=by show k < _;have:=HQ1.out;omega
   have hkn:k < n:=by omega
   rw [hl] at D1;simp only [oI] at D1 ⊢;have jk:(0:Int)≤(k:Int):=by omega
   obtain ⟨z3,hz⟩:∃ z,(ev h k).2.2.2=z:=⟨_,rfl⟩;have HZ:Hid ((ev h k).2.2.2=z3):=hz;rw [hz];clear hl hz hk
   by_cases d:z3=x3
   ·have e1:(z3==x3)=true:=by rw [d];exact beq_self_eq_true _
    rw [if_pos d];clear d;go_enter Tryz.func92,Tryz.ntmps92
    go_wp2_with fail
    refine (CC _ B0).mono ?_;rintro e w1 ⟨rfl,b1⟩;have R1:=(R0.below b1).alloc (.cells #[.int .i64 x0,.int .i64 x1,.string ⟨x2.toArray⟩,.string ⟨x3.toArray⟩] 53);have B1':=bel_trans B0 b1;have X1:=SBox.new w1 53 #[.int .i64 x0,.int .i64 x1,.string ⟨x2.toArray⟩,.string ⟨x3.toArray⟩];have B1:=B1'.alloc B1'.size (.cells #[.int .i64 x0,.int .i64 x1,.string ⟨x2.toArray⟩,.string ⟨x3.toArray⟩] 53);have f0:=X1.cell 0 _ rfl;have f1:=X1.cell 1 _ rfl;have f2:=X1.cell 2 _ rfl;have f3:=X1.cell 3 _ rfl;obtain ⟨s0,s1,s2,s3⟩:=HQ.out q HQ1.out _ B1';rw [HX.out] at s0 s1 s2 s3;simp only at s0 s1 s2 s3;go_wp2_with fail
    refine (D1 _ B1).mono ?_;rintro e w2 ⟨rfl,b2⟩;have R2:=R1.below b2;have X2:=X1.below b2;have B2:=bel_trans B1 b2;clear f0 f1 f2 f3;have f0:=X2.cell 0 _ rfl;have f1:=X2.cell 1 _ rfl;have f2:=X2.cell 2 _ rfl;have f3:=X2.cell 3 _ rfl;have m3:=(HQ.out k HK.out _ B2).2.2.2;rw [HZ.out] at m3;go_wp2_with fail
    go_quiet (fail)
    have R12:=R2.below (below_drewN (Below.refl _ w2) nq);have B12:=below_drewN B2 nq;have X12:=X2.below (below_drewN (Below.refl _ w2) nq);clear f0 f1 f2 f3;have f0:=X12.cell 0 _ rfl;have f1:=X12.cell 1 _ rfl;have f2:=X12.cell 2 _ rfl;have f3:=X12.cell 3 _ rfl;have r0:=R12.cell 0 _ rfl;have r1:=R12.cell 1 _ rfl;have r2:=R12.cell 2 _ rfl;have g0:=R12.frozen 0;have g1:=R12.frozen 1;have g2:=R12.frozen 2;go_wp2_with fail
    generalize hW:World.setCell _ _ _=W;have RW:SBox W w.heap.size 24 #[.int .i64 0,.int .i64 0,.int .i64 0]:=by rw [← hW];exact SBox.put3 R12 _ _ _
    have BZ:Below w.heap.size w W:=by rw [← hW];exact bel_put3 B12 (Nat.le_refl _) _ _ _
    exact bodyPost_ret (v:=badA (0,0,0)) (results_row1 Tryz.results92 _ _ w.heap.size 24 _ (0,0) _ rfl RW Tryz.underlying24 rfl size_bad) rfl ⟨rfl,BZ⟩
   ·have e1:(z3==x3)=false:=beq_eq_false_iff_ne.2 d
    rw [if_neg d];go_enter Tryz.func92,Tryz.ntmps92
    go_wp2_with fail
    refine (CC _ B0).mono ?_;rintro e w1 ⟨rfl,b1⟩;have R1:=(R0.below b1).alloc (.cells #[.int .i64 x0,.int .i64 x1,.string ⟨x2.toArray⟩,.string ⟨x3.toArray⟩] 53);have B1':=bel_trans B0 b1;have X1:=SBox.new w1 53 #[.int .i64 x0,.int .i64 x1,.string ⟨x2.toArray⟩,.string ⟨x3.toArray⟩];have B1:=B1'.alloc B1'.size (.cells #[.int .i64 x0,.int .i64 x1,.string ⟨x2.toArray⟩,.string ⟨x3.toArray⟩] 53);have f0:=X1.cell 0 _ rfl;have f1:=X1.cell 1 _ rfl;have f2:=X1.cell 2 _ rfl;have f3:=X1.cell 3 _ rfl;obtain ⟨s0,s1,s2,s3⟩:=HQ.out q HQ1.out _ B1';rw [HX.out] at s0 s1 s2 s3;simp only at s0 s1 s2 s3;go_wp2_with fail
    refine (D1 _ B1).mono ?_;rintro e w2 ⟨rfl,b2⟩;have R2:=R1.below b2;have X2:=X1.below b2;have B2:=bel_trans B1 b2;clear f0 f1 f2 f3;have f0:=X2.cell 0 _ rfl;have f1:=X2.cell 1 _ rfl;have f2:=X2.cell 2 _ rfl;have f3:=X2.cell 3 _ rfl;have m3:=(HQ.out k HK.out _ B2).2.2.2;rw [HZ.out] at m3;go_wp2_with fail
    go_quiet (fail)
    have R12:=R2.below (below_drewN (Below.refl _ w2) nq);have B12:=below_drewN B2 nq;have X12:=X2.below (below_drewN (Below.refl _ w2) nq);clear f0 f1 f2 f3;have f0:=X12.cell 0 _ rfl;have f1:=X12.cell 1 _ rfl;have f2:=X12.cell 2 _ rfl;have f3:=X12.cell 3 _ rfl;have r0:=R12.cell 0 _ rfl;have r1:=R12.cell 1 _ rfl;have r2:=R12.cell 2 _ rfl;have g0:=R12.frozen 0;have g1:=R12.frozen 1;have g2:=R12.frozen 2;go_wp2_with fail
    generalize hW:World.setCell _ _ _=W;have RW:SBox W w.heap.size 24 #[.int .i64 3,.int .i64 (q:Int),.int .i64 (k:Int)]:=by rw [← hW];exact SBox.put3 R12 _ _ _
    have BZ:Below w.heap.size w W:=by rw [← hW];exact bel_put3 B12 (Nat.le_refl _) _ _ _
    exact bodyPost_ret (v:=badA (3,(q:Int),(k:Int))) (results_row1 Tryz.results92 _ _ w.heap.size 24 _ (0,0) _ rfl RW Tryz.underlying24 rfl size_bad) rfl ⟨rfl,BZ⟩
 ·have hcf:countI h i=false:=by simpa using hc
  rw [hcf] at CC
  have hA:atI h i=(0,0,0):=by
   unfold atI
   by_cases h0:0≤i
   ·rw [if_pos h0]
    unfold countI at hcf;rw [decide_eq_true h0,Bool.true_and] at hcf;unfold atL;rw [if_pos hcf]
   ·rw [if_neg h0]
  rw [hA];clear hA hcf hc;go_enter Tryz.func92,Tryz.ntmps92
  go_wp2_with fail
  refine (CC _ B0).mono ?_;rintro e w1 ⟨rfl,b1⟩;have R1:=R0.below b1;have B1:=bel_trans B0 b1;have r0:=R1.cell 0 _ rfl;have r1:=R1.cell 1 _ rfl;have r2:=R1.cell 2 _ rfl;have g0:=R1.frozen 0;have g1:=R1.frozen 1;have g2:=R1.frozen 2;go_wp2_with fail
  generalize hW:World.setCell _ _ _=W;have RW:SBox W w.heap.size 24 #[.int .i64 0,.int .i64 0,.int .i64 0]:=by rw [← hW];exact SBox.put3 R1 _ _ _
  have BZ:Below w.heap.size w W:=by rw [← hW];exact bel_put3 B1 (Nat.le_refl _) _ _ _
  exact bodyPost_ret (v:=badA (0,0,0)) (results_row1 Tryz.results92 _ _ w.heap.size 24 _ (0,0) _ rfl RW Tryz.underlying24 rfl size_bad) rfl ⟨rfl,BZ⟩
end Go.Proofs.YthamoeekiglphaaGreatDoor
