/-
  What taint.ofWriter answers.
-/
import Derived.Test.YtdlcimfifkhllaaGreatCL2a
namespace Go.Proofs.YtdlcimfifkhllaaGreat
set_option maxRecDepth 100000
open Go.RowKit
set_option linter.unusedVariables false
attribute [local go_sem] ba_size
set_option maxHeartbeats 8000000 in
theorem pof_any (h:List Ev) (v:Value) (w:World) (hT:IsEvs w v h) (q:Nat) (hq:q < h.length) :
 Calls Tryz.prog 86 #[v,.int .i64 (q:Int)] w fun e w'=>e=.returned (badA (ofwL h q))∧Below w.heap.size w w':=by
 have C1:=fun (t:Int) W hW=>pfind8_any h v W t (hT.below (w':=W) hW)
 have C2:=fun (t:Int) (k:List UInt8) (b:Nat) W hW=>plast8_any h v W t k (b:Int) (hT.below (w':=W) hW)
 have C3:=fun (a b:List UInt8) W hW=>pwriter8_any h v W (hT.below (w':=W) hW) a b
 have R0:=SBox.new w 25 #[.int .i64 0,.int .i64 0,.int .i64 0]
 have B0:=(Below.refl w.heap.size w).alloc (Nat.le_refl _) (.cells #[.int .i64 0,.int .i64 0,.int .i64 0] 25)
 obtain ⟨a,cap,rfl,h1,h2,h3,HC⟩:=hT.reads
 obtain ⟨n,hn⟩:∃ n,h.length=n:=⟨_,rfl⟩
 have HN:Hid (h.length=n):=hn
 simp only [hn] at C1 C2 C3
 have HQ1:Hid (q < h.length):=hq
 rw [hn] at h1 h3 hq ⊢
 clear hT hn
 obtain ⟨bb,off,rfl,HQ⟩:=HC.out (by have:=HQ1.out;omega)
 obtain ⟨⟨x0,x1,x2,x3⟩,hx⟩:∃ x,ev h q=x:=⟨_,rfl⟩
 have HX:Hid (ev h q=(x0,x1,x2,x3)):=hx
 unfold ofwL
 simp only [hx]
 have D2:=C3 x2 x3
 obtain ⟨_,c1,c2,c3⟩:=HQ.out q HQ1.out _ B0
 rw [hx] at c1 c2 c3
 simp only at c1 c2 c3
 clear hx HC
 by_cases hv:x3=[]
 ·subst hv
  rw [if_pos rfl]
  go_enter Tryz.func86,Tryz.ntmps86
  go_wp2_with fail
  exact bodyPost_ret (v:=badA (0,0,0)) (results_row1 Tryz.results86 _ _ w.heap.size 25 _ (0,0) _ rfl R0 Tryz.underlying25 rfl size_bad) rfl ⟨rfl,B0⟩
 ·have nv:=ne_nil7 x3 hv
  have nv2:(x3==[])=false:=beq_eq_false_iff_ne.2 hv
  rw [if_neg hv]
  clear hv
  rcases hw:writerL h x2 x3 with _ | u
  ·rw [hw] at D2
   simp only [oI] at D2 ⊢
   clear hw
   go_enter Tryz.func86,Tryz.ntmps86
   go_wp2_with fail
   have S0:(fun V=>Below (w.alloc (.cells #[.int .i64 0,.int .i64 0,.int .i64 0] 25)).heap.size (w.alloc (.cells #[.int .i64 0,.int .i64 0,.int .i64 0] 25)) V∧V.cell? ⟨bb,off+q*4+2,none⟩=some (.string ⟨x2.toArray⟩)∧V.cell? ⟨bb,off+q*4+3,none⟩=some (.string ⟨x3.toArray⟩)) (w.alloc (.cells #[.int .i64 0,.int .i64 0,.int .i64 0] 25)).drew:=⟨(Below.refl _ _).drew,c2,c3⟩
   have keepS:∀ V V':World,(fun V=>Below (w.alloc (.cells #[.int .i64 0,.int .i64 0,.int .i64 0] 25)).heap.size (w.alloc (.cells #[.int .i64 0,.int .i64 0,.int .i64 0] 25)) V∧V.cell? ⟨bb,off+q*4+2,none⟩=some (.string ⟨x2.toArray⟩)∧V.cell? ⟨bb,off+q*4+3,none⟩=some (.string ⟨x3.toArray⟩)) V→Below V.heap.size V V'→(fun V=>Below (w.alloc (.cells #[.int .i64 0,.int .i64 0,.int .i64 0] 25)).heap.size (w.alloc (.cells #[.int .i64 0,.int .i64 0,.int .i64 0] 25)) V∧V.cell? ⟨bb,off+q*4+2,none⟩=some (.string ⟨x2.toArray⟩)∧V.cell? ⟨bb,off+q*4+3,none⟩=some (.string ⟨x3.toArray⟩)) V':=fun V V' ⟨a,a0,a1⟩ d=>⟨bel_trans a d,cell_bel d a0,cell_bel d a1⟩
   go_wp2_with fail
   go_region_held3 (fun V=>Below (w.alloc (.cells #[.int .i64 0,.int .i64 0,.int .i64 0] 25)).heap.size (w.alloc (.cells #[.int .i64 0,.int .i64 0,.int .i64 0] 25)) V∧V.cell? ⟨bb,off+q*4+2,none⟩=some (.string ⟨x2.toArray⟩)∧V.cell? ⟨bb,off+q*4+3,none⟩=some (.string ⟨x3.toArray⟩)) (first | exact S0 | exact keepS _ _ (by assumption) (by assumption)) (first | (go_at_call 79;refine (D2 _ (bel_trans (B0) (And.left (by assumption)))).mono ?_;rintro e' w' ⟨rfl,b8⟩))
   rename_i hHeld8
   have s8:=hHeld8.1
   clear S0 keepS hHeld8
   have R1:=R0.below s8
   have B1:=bel_trans B0 s8
   clear s8
   have r0:=R1.cell 0 _ rfl
   have r1:=R1.cell 1 _ rfl
   have r2:=R1.cell 2 _ rfl
   have g0:=R1.frozen 0
   have g1:=R1.frozen 1
   have g2:=R1.frozen 2
   go_wp2_with fail
   generalize hW:World.setCell _ _ _=W
   have RW:SBox W w.heap.size 25 #[.int .i64 0,.int .i64 0,.int .i64 0]:=by rw [← hW];exact SBox.put3 R1 _ _ _
   have BZ:Below w.heap.size w W:=by rw [← hW];exact bel_put3 B1 (Nat.le_refl _) _ _ _
   exact bodyPost_ret (v:=badA (0,0,0)) (results_row1 Tryz.results86 _ _ w.heap.size 25 _ (0,0) _ rfl RW Tryz.underlying25 rfl size_bad) rfl ⟨rfl,BZ⟩
  ·have hu:=((writerL_some _ _ _ _).1 hw).1
   have HU:Hid (u < h.length):=hu
   have hun:u < n:=by have:=HN.out;omega
   rw [hw] at D2
   simp only [oI] at D2 ⊢
   have ju:¬ (u:Int) < 0:=by omega
   obtain ⟨⟨z0,z1,z2,z3⟩,hz⟩:∃ x,ev h u=x:=⟨_,rfl⟩
   have HZ:Hid (ev h u=(z0,z1,z2,z3)):=hz
   have hft:=find_txn h u hu
   have hlc:=life_comm h z1
   rw [hz] at hft
   simp only at hft
   simp only [hz]
   have D1:=C1 z1
   obtain ⟨⟨⟨f0,f1,f2,f3⟩,f4⟩,hf⟩:∃ y,findP h z1=y:=⟨_,rfl⟩
   rw [hf] at hft D1 hlc
   simp only at hft D1 hlc
   obtain rfl:f0=z1:=hft
   have D3:=C2 f0 x2 f2
   rw [last_min h f0 x2 f2,HN.out] at D3
   have HLC:Hid ((f3=true→commL h f0=some f2)∧(f3=false→commL h f0=none)):=by
    refine ⟨fun e3=>?_,fun e3=>?_⟩
    ·rcases hlc with ⟨e,f,g1,g2⟩ | ⟨g1,g2⟩
     ·rw [g1];simp only [Prod.mk.injEq] at g2;rw [g2.1.2.2.1]
     ·rw [e3] at g2;cases g2
    ·rcases hlc with ⟨e,f,g1,g2⟩ | ⟨g1,g2⟩
     ·simp only [Prod.mk.injEq] at g2;rw [e3] at g2;cases g2.1.2.2.2
     ·exact g1
   clear hf hlc hz hw hu C1 C2 C3
   obtain ⟨m,hm⟩:∃ m,lastN h f0 x2 (min n f2)=m:=⟨_,rfl⟩
   have HM:Hid (lastN h f0 x2 (min n f2)=m):=hm
   rw [hm] at D3
   clear hm
   by_cases d:f0=x1
   ·have e1:(f0==x1)=true:=by rw [d];exact beq_self_eq_true _
    rw [if_pos d]
    have DX:Hid (f0=x1):=d
    clear d
    cases f3 with
    | false =>
      go_enter Tryz.func86,Tryz.ntmps86
      go_wp2_with fail
      have S0:(fun V=>Below (w.alloc (.cells #[.int .i64 0,.int .i64 0,.int .i64 0] 25)).heap.size (w.alloc (.cells #[.int .i64 0,.int .i64 0,.int .i64 0] 25)) V∧V.cell? ⟨bb,off+q*4+2,none⟩=some (.string ⟨x2.toArray⟩)∧V.cell? ⟨bb,off+q*4+3,none⟩=some (.string ⟨x3.toArray⟩)) (w.alloc (.cells #[.int .i64 0,.int .i64 0,.int .i64 0] 25)).drew:=⟨(Below.refl _ _).drew,c2,c3⟩
      have keepS:∀ V V':World,(fun V=>Below (w.alloc (.cells #[.int .i64 0,.int .i64 0,.int .i64 0] 25)).heap.size (w.alloc (.cells #[.int .i64 0,.int .i64 0,.int .i64 0] 25)) V∧V.cell? ⟨bb,off+q*4+2,none⟩=some (.string ⟨x2.toArray⟩)∧V.cell? ⟨bb,off+q*4+3,none⟩=some (.string ⟨x3.toArray⟩)) V→Below V.heap.size V V'→(fun V=>Below (w.alloc (.cells #[.int .i64 0,.int .i64 0,.int .i64 0] 25)).heap.size (w.alloc (.cells #[.int .i64 0,.int .i64 0,.int .i64 0] 25)) V∧V.cell? ⟨bb,off+q*4+2,none⟩=some (.string ⟨x2.toArray⟩)∧V.cell? ⟨bb,off+q*4+3,none⟩=some (.string ⟨x3.toArray⟩)) V':=fun V V' ⟨a,a0,a1⟩ d=>⟨bel_trans a d,cell_bel d a0,cell_bel d a1⟩
      go_wp2_with fail
      go_region_held3 (fun V=>Below (w.alloc (.cells #[.int .i64 0,.int .i64 0,.int .i64 0] 25)).heap.size (w.alloc (.cells #[.int .i64 0,.int .i64 0,.int .i64 0] 25)) V∧V.cell? ⟨bb,off+q*4+2,none⟩=some (.string ⟨x2.toArray⟩)∧V.cell? ⟨bb,off+q*4+3,none⟩=some (.string ⟨x3.toArray⟩)) (first | exact S0 | exact keepS _ _ (by assumption) (by assumption)) (first | (go_at_call 79;refine (D2 _ (bel_trans (B0) (And.left (by assumption)))).mono ?_;rintro e' w' ⟨rfl,b8⟩))
      rename_i hHeld8
      have s8:=hHeld8.1
      clear S0 keepS hHeld8
      have R1:=R0.below s8
      have B1:=bel_trans B0 s8
      clear s8
      have m1:=(HQ.out u HU.out _ B1).2.1
      rw [HZ.out] at m1
      simp only at m1
      go_wp2_with fail
      refine (D1 _ B1).mono ?_
      rintro e2 w2 ⟨rfl,b2⟩
      have R2:=((R1.below b2).alloc (.cells #[.int .i64 f0,.int .i64 (f1:Int),.int .i64 (f2:Int),.bool false] 91)).alloc (.cells #[.int .i64 1,.int .i64 (q:Int),.int .i64 (u:Int)] 25)
      have B2':=bel_trans B1 b2
      have B2:=(B2'.alloc B2'.size (.cells #[.int .i64 f0,.int .i64 (f1:Int),.int .i64 (f2:Int),.bool false] 91)).alloc (by have:=B2'.size;simp;omega) (.cells #[.int .i64 1,.int .i64 (q:Int),.int .i64 (u:Int)] 25)
      have X2:=(SBox.new w2 91 #[.int .i64 f0,.int .i64 (f1:Int),.int .i64 (f2:Int),.bool false]).alloc (.cells #[.int .i64 1,.int .i64 (q:Int),.int .i64 (u:Int)] 25)
      have Y2:=SBox.new (w2.alloc (.cells #[.int .i64 f0,.int .i64 (f1:Int),.int .i64 (f2:Int),.bool false] 91)) 25 #[.int .i64 1,.int .i64 (q:Int),.int .i64 (u:Int)]
      rw [World.size_alloc] at Y2
      have l0:=X2.cell 0 _ rfl
      have l2:=X2.cell 2 _ rfl
      have l3:=X2.cell 3 _ rfl
      have k2:=(HQ.out q HQ1.out _ B2).2.2.1
      rw [HX.out] at k2
      simp only at k2
      clear m1
      go_wp2_with fail
      have S0:(fun V=>Below ((w2.alloc (.cells #[.int .i64 f0,.int .i64 (f1:Int),.int .i64 (f2:Int),.bool false] 91)).alloc (.cells #[.int .i64 1,.int .i64 (q:Int),.int .i64 (u:Int)] 25)).heap.size ((w2.alloc (.cells #[.int .i64 f0,.int .i64 (f1:Int),.int .i64 (f2:Int),.bool false] 91)).alloc (.cells #[.int .i64 1,.int .i64 (q:Int),.int .i64 (u:Int)] 25)) V∧V.cell? ⟨w2.heap.size,0,none⟩=some (.int .i64 f0)∧V.cell? ⟨w2.heap.size,2,none⟩=some (.int .i64 (f2:Int))∧V.cell? ⟨bb,off+q*4+2,none⟩=some (.string ⟨x2.toArray⟩)) ((w2.alloc (.cells #[.int .i64 f0,.int .i64 (f1:Int),.int .i64 (f2:Int),.bool false] 91)).alloc (.cells #[.int .i64 1,.int .i64 (q:Int),.int .i64 (u:Int)] 25)).drew:=⟨(Below.refl _ _).drew,l0,l2,k2⟩
      have keepS:∀ V V':World,(fun V=>Below ((w2.alloc (.cells #[.int .i64 f0,.int .i64 (f1:Int),.int .i64 (f2:Int),.bool false] 91)).alloc (.cells #[.int .i64 1,.int .i64 (q:Int),.int .i64 (u:Int)] 25)).heap.size ((w2.alloc (.cells #[.int .i64 f0,.int .i64 (f1:Int),.int .i64 (f2:Int),.bool false] 91)).alloc (.cells #[.int .i64 1,.int .i64 (q:Int),.int .i64 (u:Int)] 25)) V∧V.cell? ⟨w2.heap.size,0,none⟩=some (.int .i64 f0)∧V.cell? ⟨w2.heap.size,2,none⟩=some (.int .i64 (f2:Int))∧V.cell? ⟨bb,off+q*4+2,none⟩=some (.string ⟨x2.toArray⟩)) V→Below V.heap.size V V'→(fun V=>Below ((w2.alloc (.cells #[.int .i64 f0,.int .i64 (f1:Int),.int .i64 (f2:Int),.bool false] 91)).alloc (.cells #[.int .i64 1,.int .i64 (q:Int),.int .i64 (u:Int)] 25)).heap.size ((w2.alloc (.cells #[.int .i64 f0,.int .i64 (f1:Int),.int .i64 (f2:Int),.bool false] 91)).alloc (.cells #[.int .i64 1,.int .i64 (q:Int),.int .i64 (u:Int)] 25)) V∧V.cell? ⟨w2.heap.size,0,none⟩=some (.int .i64 f0)∧V.cell? ⟨w2.heap.size,2,none⟩=some (.int .i64 (f2:Int))∧V.cell? ⟨bb,off+q*4+2,none⟩=some (.string ⟨x2.toArray⟩)) V':=fun V V' ⟨a,a0,a1,a2⟩ d=>⟨bel_trans a d,cell_bel d a0,cell_bel d a1,cell_bel d a2⟩
      go_wp2_with fail
      go_region_held3 (fun V=>Below ((w2.alloc (.cells #[.int .i64 f0,.int .i64 (f1:Int),.int .i64 (f2:Int),.bool false] 91)).alloc (.cells #[.int .i64 1,.int .i64 (q:Int),.int .i64 (u:Int)] 25)).heap.size ((w2.alloc (.cells #[.int .i64 f0,.int .i64 (f1:Int),.int .i64 (f2:Int),.bool false] 91)).alloc (.cells #[.int .i64 1,.int .i64 (q:Int),.int .i64 (u:Int)] 25)) V∧V.cell? ⟨w2.heap.size,0,none⟩=some (.int .i64 f0)∧V.cell? ⟨w2.heap.size,2,none⟩=some (.int .i64 (f2:Int))∧V.cell? ⟨bb,off+q*4+2,none⟩=some (.string ⟨x2.toArray⟩)) (first | exact S0 | exact keepS _ _ (by assumption) (by assumption)) (first | (go_at_call 107;refine (D3 _ (bel_trans (B2) (And.left (by assumption)))).mono ?_;rintro e' w' ⟨rfl,b8⟩))
      rename_i hHeld8
      have s8:=hHeld8.1
      clear S0 keepS hHeld8
      have R3:=R2.below s8
      have B3:=bel_trans B2 s8
      have X3:=X2.below s8
      have Y3:=Y2.below s8
      clear s8 l0 l2 l3 k2
      have l0:=X3.cell 0 _ rfl
      have k1:=(HQ.out q HQ1.out _ B3).2.1
      rw [HX.out] at k1
      simp only at k1
      go_wp2_with fail
      go_quiet (fail)
      have R4:=R3.below (below_drewN (Below.refl _ _) nq)
      have B4:=below_drewN B3 nq
      have X4:=X3.below (below_drewN (Below.refl _ _) nq)
      have Y4:=Y3.below (below_drewN (Below.refl _ _) nq)
      clear l0 k1
      have l3:=X4.cell 3 _ rfl
      have y0:=Y4.cell 0 _ rfl
      have y1:=Y4.cell 1 _ rfl
      have y2:=Y4.cell 2 _ rfl
      have r0:=R4.cell 0 _ rfl
      have r1:=R4.cell 1 _ rfl
      have r2:=R4.cell 2 _ rfl
      have g0:=R4.frozen 0
      have g1:=R4.frozen 1
      have g2:=R4.frozen 2
      have p0:=Y4.frozen 0
      have hne:w2.heap.size+1≠w.heap.size:=by have:=B2'.size;omega
      have hle:w.heap.size≤w2.heap.size+1:=by have:=B2'.size;omega
      have Y5:=Y4.set 0 (.int .i64 4)
      have R5:=R4.other (w2.heap.size+1) 0 (.int .i64 4) hne
      have B5:=B4.setCell (p:=⟨w2.heap.size+1,0,none⟩) hle (.int .i64 4)
      have i0:=Y5.cell 0 _ rfl
      have i1:=Y5.cell 1 _ rfl
      have i2:=Y5.cell 2 _ rfl
      have n0:=R5.cell 0 _ rfl
      have n1:=R5.cell 1 _ rfl
      have n2:=R5.cell 2 _ rfl
      have o0:=R5.frozen 0
      have o1:=R5.frozen 1
      have o2:=R5.frozen 2
      go_wp2_with fail
      generalize hW:World.setCell _ _ _=W
      have RW:SBox W w.heap.size 25 #[.int .i64 4,.int .i64 (q:Int),.int .i64 (u:Int)]:=by rw [← hW];exact SBox.put3 R5 _ _ _
      have BZ:Below w.heap.size w W:=by rw [← hW];exact bel_put3 B5 (Nat.le_refl _) _ _ _
      exact bodyPost_ret (v:=badA (4,(q:Int),(u:Int))) (results_row1 Tryz.results86 _ _ w.heap.size 25 _ (0,0) _ rfl RW Tryz.underlying25 rfl size_bad) rfl ⟨rfl,BZ⟩
    | true =>
      go_enter Tryz.func86,Tryz.ntmps86
      go_wp2_with fail
      have S0:(fun V=>Below (w.alloc (.cells #[.int .i64 0,.int .i64 0,.int .i64 0] 25)).heap.size (w.alloc (.cells #[.int .i64 0,.int .i64 0,.int .i64 0] 25)) V∧V.cell? ⟨bb,off+q*4+2,none⟩=some (.string ⟨x2.toArray⟩)∧V.cell? ⟨bb,off+q*4+3,none⟩=some (.string ⟨x3.toArray⟩)) (w.alloc (.cells #[.int .i64 0,.int .i64 0,.int .i64 0] 25)).drew:=⟨(Below.refl _ _).drew,c2,c3⟩
      have keepS:∀ V V':World,(fun V=>Below (w.alloc (.cells #[.int .i64 0,.int .i64 0,.int .i64 0] 25)).heap.size (w.alloc (.cells #[.int .i64 0,.int .i64 0,.int .i64 0] 25)) V∧V.cell? ⟨bb,off+q*4+2,none⟩=some (.string ⟨x2.toArray⟩)∧V.cell? ⟨bb,off+q*4+3,none⟩=some (.string ⟨x3.toArray⟩)) V→Below V.heap.size V V'→(fun V=>Below (w.alloc (.cells #[.int .i64 0,.int .i64 0,.int .i64 0] 25)).heap.size (w.alloc (.cells #[.int .i64 0,.int .i64 0,.int .i64 0] 25)) V∧V.cell? ⟨bb,off+q*4+2,none⟩=some (.string ⟨x2.toArray⟩)∧V.cell? ⟨bb,off+q*4+3,none⟩=some (.string ⟨x3.toArray⟩)) V':=fun V V' ⟨a,a0,a1⟩ d=>⟨bel_trans a d,cell_bel d a0,cell_bel d a1⟩
      go_wp2_with fail
      go_region_held3 (fun V=>Below (w.alloc (.cells #[.int .i64 0,.int .i64 0,.int .i64 0] 25)).heap.size (w.alloc (.cells #[.int .i64 0,.int .i64 0,.int .i64 0] 25)) V∧V.cell? ⟨bb,off+q*4+2,none⟩=some (.string ⟨x2.toArray⟩)∧V.cell? ⟨bb,off+q*4+3,none⟩=some (.string ⟨x3.toArray⟩)) (first | exact S0 | exact keepS _ _ (by assumption) (by assumption)) (first | (go_at_call 79;refine (D2 _ (bel_trans (B0) (And.left (by assumption)))).mono ?_;rintro e' w' ⟨rfl,b8⟩))
      rename_i hHeld8
      have s8:=hHeld8.1
      clear S0 keepS hHeld8
      have R1:=R0.below s8
      have B1:=bel_trans B0 s8
      clear s8
      have m1:=(HQ.out u HU.out _ B1).2.1
      rw [HZ.out] at m1
      simp only at m1
      go_wp2_with fail
      refine (D1 _ B1).mono ?_
      rintro e2 w2 ⟨rfl,b2⟩
      have R2:=((R1.below b2).alloc (.cells #[.int .i64 f0,.int .i64 (f1:Int),.int .i64 (f2:Int),.bool true] 91)).alloc (.cells #[.int .i64 1,.int .i64 (q:Int),.int .i64 (u:Int)] 25)
      have B2':=bel_trans B1 b2
      have B2:=(B2'.alloc B2'.size (.cells #[.int .i64 f0,.int .i64 (f1:Int),.int .i64 (f2:Int),.bool true] 91)).alloc (by have:=B2'.size;simp;omega) (.cells #[.int .i64 1,.int .i64 (q:Int),.int .i64 (u:Int)] 25)
      have X2:=(SBox.new w2 91 #[.int .i64 f0,.int .i64 (f1:Int),.int .i64 (f2:Int),.bool true]).alloc (.cells #[.int .i64 1,.int .i64 (q:Int),.int .i64 (u:Int)] 25)
      have Y2:=SBox.new (w2.alloc (.cells #[.int .i64 f0,.int .i64 (f1:Int),.int .i64 (f2:Int),.bool true] 91)) 25 #[.int .i64 1,.int .i64 (q:Int),.int .i64 (u:Int)]
      rw [World.size_alloc] at Y2
      have l0:=X2.cell 0 _ rfl
      have l2:=X2.cell 2 _ rfl
      have l3:=X2.cell 3 _ rfl
      have k2:=(HQ.out q HQ1.out _ B2).2.2.1
      rw [HX.out] at k2
      simp only at k2
      clear m1
      go_wp2_with fail
      have S0:(fun V=>Below ((w2.alloc (.cells #[.int .i64 f0,.int .i64 (f1:Int),.int .i64 (f2:Int),.bool true] 91)).alloc (.cells #[.int .i64 1,.int .i64 (q:Int),.int .i64 (u:Int)] 25)).heap.size ((w2.alloc (.cells #[.int .i64 f0,.int .i64 (f1:Int),.int .i64 (f2:Int),.bool true] 91)).alloc (.cells #[.int .i64 1,.int .i64 (q:Int),.int .i64 (u:Int)] 25)) V∧V.cell? ⟨w2.heap.size,0,none⟩=some (.int .i64 f0)∧V.cell? ⟨w2.heap.size,2,none⟩=some (.int .i64 (f2:Int))∧V.cell? ⟨bb,off+q*4+2,none⟩=some (.string ⟨x2.toArray⟩)) ((w2.alloc (.cells #[.int .i64 f0,.int .i64 (f1:Int),.int .i64 (f2:Int),.bool true] 91)).alloc (.cells #[.int .i64 1,.int .i64 (q:Int),.int .i64 (u:Int)] 25)).drew:=⟨(Below.refl _ _).drew,l0,l2,k2⟩
      have keepS:∀ V V':World,(fun V=>Below ((w2.alloc (.cells #[.int .i64 f0,.int .i64 (f1:Int),.int .i64 (f2:Int),.bool true] 91)).alloc (.cells #[.int .i64 1,.int .i64 (q:Int),.int .i64 (u:Int)] 25)).heap.size ((w2.alloc (.cells #[.int .i64 f0,.int .i64 (f1:Int),.int .i64 (f2:Int),.bool true] 91)).alloc (.cells #[.int .i64 1,.int .i64 (q:Int),.int .i64 (u:Int)] 25)) V∧V.cell? ⟨w2.heap.size,0,none⟩=some (.int .i64 f0)∧V.cell? ⟨w2.heap.size,2,none⟩=some (.int .i64 (f2:Int))∧V.cell? ⟨bb,off+q*4+2,none⟩=some (.string ⟨x2.toArray⟩)) V→Below V.heap.size V V'→(fun V=>Below ((w2.alloc (.cells #[.int .i64 f0,.int .i64 (f1:Int),.int .i64 (f2:Int),.bool true] 91)).alloc (.cells #[.int .i64 1,.int .i64 (q:Int),.int .i64 (u:Int)] 25)).heap.size ((w2.alloc (.cells #[.int .i64 f0,.int .i64 (f1:Int),.int .i64 (f2:Int),.bool true] 91)).alloc (.cells #[.int .i64 1,.int .i64 (q:Int),.int .i64 (u:Int)] 25)) V∧V.cell? ⟨w2.heap.size,0,none⟩=some (.int .i64 f0)∧V.cell? ⟨w2.heap.size,2,none⟩=some (.int .i64 (f2:Int))∧V.cell? ⟨bb,off+q*4+2,none⟩=some (.string ⟨x2.toArray⟩)) V':=fun V V' ⟨a,a0,a1,a2⟩ d=>⟨bel_trans a d,cell_bel d a0,cell_bel d a1,cell_bel d a2⟩
      go_wp2_with fail
      go_region_held3 (fun V=>Below ((w2.alloc (.cells #[.int .i64 f0,.int .i64 (f1:Int),.int .i64 (f2:Int),.bool true] 91)).alloc (.cells #[.int .i64 1,.int .i64 (q:Int),.int .i64 (u:Int)] 25)).heap.size ((w2.alloc (.cells #[.int .i64 f0,.int .i64 (f1:Int),.int .i64 (f2:Int),.bool true] 91)).alloc (.cells #[.int .i64 1,.int .i64 (q:Int),.int .i64 (u:Int)] 25)) V∧V.cell? ⟨w2.heap.size,0,none⟩=some (.int .i64 f0)∧V.cell? ⟨w2.heap.size,2,none⟩=some (.int .i64 (f2:Int))∧V.cell? ⟨bb,off+q*4+2,none⟩=some (.string ⟨x2.toArray⟩)) (first | exact S0 | exact keepS _ _ (by assumption) (by assumption)) (first | (go_at_call 107;refine (D3 _ (bel_trans (B2) (And.left (by assumption)))).mono ?_;rintro e' w' ⟨rfl,b8⟩))
      rename_i hHeld8
      have s8:=hHeld8.1
      clear S0 keepS hHeld8
      have R3:=R2.below s8
      have B3:=bel_trans B2 s8
      have X3:=X2.below s8
      have Y3:=Y2.below s8
      clear s8 l0 l2 l3 k2
      have l0:=X3.cell 0 _ rfl
      have k1:=(HQ.out q HQ1.out _ B3).2.1
      rw [HX.out] at k1
      simp only at k1
      go_wp2_with fail
      go_quiet (fail)
      have R4:=R3.below (below_drewN (Below.refl _ _) nq)
      have B4:=below_drewN B3 nq
      have X4:=X3.below (below_drewN (Below.refl _ _) nq)
      have Y4:=Y3.below (below_drewN (Below.refl _ _) nq)
      clear l0 k1
      have l3:=X4.cell 3 _ rfl
      have y0:=Y4.cell 0 _ rfl
      have y1:=Y4.cell 1 _ rfl
      have y2:=Y4.cell 2 _ rfl
      have r0:=R4.cell 0 _ rfl
      have r1:=R4.cell 1 _ rfl
      have r2:=R4.cell 2 _ rfl
      have g0:=R4.frozen 0
      have g1:=R4.frozen 1
      have g2:=R4.frozen 2
      have p0:=Y4.frozen 0
      have hne:w2.heap.size+1≠w.heap.size:=by have:=B2'.size;omega
      have hle:w.heap.size≤w2.heap.size+1:=by have:=B2'.size;omega
      have Y5:=Y4.set 0 (.int .i64 4)
      have R5:=R4.other (w2.heap.size+1) 0 (.int .i64 4) hne
      have B5:=B4.setCell (p:=⟨w2.heap.size+1,0,none⟩) hle (.int .i64 4)
      have i0:=Y5.cell 0 _ rfl
      have i1:=Y5.cell 1 _ rfl
      have i2:=Y5.cell 2 _ rfl
      have n0:=R5.cell 0 _ rfl
      have n1:=R5.cell 1 _ rfl
      have n2:=R5.cell 2 _ rfl
      have o0:=R5.frozen 0
      have o1:=R5.frozen 1
      have o2:=R5.frozen 2
      go_wp2_with fail
      generalize hW:World.setCell _ _ _=W
      have RW:SBox W w.heap.size 25 #[.int .i64 4,.int .i64 (q:Int),.int .i64 (u:Int)]:=by rw [← hW];exact SBox.put3 R5 _ _ _
      have BZ:Below w.heap.size w W:=by rw [← hW];exact bel_put3 B5 (Nat.le_refl _) _ _ _
      exact bodyPost_ret (v:=badA (4,(q:Int),(u:Int))) (results_row1 Tryz.results86 _ _ w.heap.size 25 _ (0,0) _ rfl RW Tryz.underlying25 rfl size_bad) rfl ⟨rfl,BZ⟩
   ·have e1:(f0==x1)=false:=beq_eq_false_iff_ne.2 d
    rw [if_neg d]
    cases f3 with
    | false =>
      have hc:=HLC.out.2 rfl
      rw [hc]
      simp only
      clear hc d
      go_enter Tryz.func86,Tryz.ntmps86
      go_wp2_with fail
      have S0:(fun V=>Below (w.alloc (.cells #[.int .i64 0,.int .i64 0,.int .i64 0] 25)).heap.size (w.alloc (.cells #[.int .i64 0,.int .i64 0,.int .i64 0] 25)) V∧V.cell? ⟨bb,off+q*4+2,none⟩=some (.string ⟨x2.toArray⟩)∧V.cell? ⟨bb,off+q*4+3,none⟩=some (.string ⟨x3.toArray⟩)) (w.alloc (.cells #[.int .i64 0,.int .i64 0,.int .i64 0] 25)).drew:=⟨(Below.refl _ _).drew,c2,c3⟩
      have keepS:∀ V V':World,(fun V=>Below (w.alloc (.cells #[.int .i64 0,.int .i64 0,.int .i64 0] 25)).heap.size (w.alloc (.cells #[.int .i64 0,.int .i64 0,.int .i64 0] 25)) V∧V.cell? ⟨bb,off+q*4+2,none⟩=some (.string ⟨x2.toArray⟩)∧V.cell? ⟨bb,off+q*4+3,none⟩=some (.string ⟨x3.toArray⟩)) V→Below V.heap.size V V'→(fun V=>Below (w.alloc (.cells #[.int .i64 0,.int .i64 0,.int .i64 0] 25)).heap.size (w.alloc (.cells #[.int .i64 0,.int .i64 0,.int .i64 0] 25)) V∧V.cell? ⟨bb,off+q*4+2,none⟩=some (.string ⟨x2.toArray⟩)∧V.cell? ⟨bb,off+q*4+3,none⟩=some (.string ⟨x3.toArray⟩)) V':=fun V V' ⟨a,a0,a1⟩ d=>⟨bel_trans a d,cell_bel d a0,cell_bel d a1⟩
      go_wp2_with fail
      go_region_held3 (fun V=>Below (w.alloc (.cells #[.int .i64 0,.int .i64 0,.int .i64 0] 25)).heap.size (w.alloc (.cells #[.int .i64 0,.int .i64 0,.int .i64 0] 25)) V∧V.cell? ⟨bb,off+q*4+2,none⟩=some (.string ⟨x2.toArray⟩)∧V.cell? ⟨bb,off+q*4+3,none⟩=some (.string ⟨x3.toArray⟩)) (first | exact S0 | exact keepS _ _ (by assumption) (by assumption)) (first | (go_at_call 79;refine (D2 _ (bel_trans (B0) (And.left (by assumption)))).mono ?_;rintro e' w' ⟨rfl,b8⟩))
      rename_i hHeld8
      have s8:=hHeld8.1
      clear S0 keepS hHeld8
      have R1:=R0.below s8
      have B1:=bel_trans B0 s8
      clear s8
      have m1:=(HQ.out u HU.out _ B1).2.1
      rw [HZ.out] at m1
      simp only at m1
      go_wp2_with fail
      refine (D1 _ B1).mono ?_
      rintro e2 w2 ⟨rfl,b2⟩
      have R2:=((R1.below b2).alloc (.cells #[.int .i64 f0,.int .i64 (f1:Int),.int .i64 (f2:Int),.bool false] 91)).alloc (.cells #[.int .i64 1,.int .i64 (q:Int),.int .i64 (u:Int)] 25)
      have B2':=bel_trans B1 b2
      have B2:=(B2'.alloc B2'.size (.cells #[.int .i64 f0,.int .i64 (f1:Int),.int .i64 (f2:Int),.bool false] 91)).alloc (by have:=B2'.size;simp;omega) (.cells #[.int .i64 1,.int .i64 (q:Int),.int .i64 (u:Int)] 25)
      have X2:=(SBox.new w2 91 #[.int .i64 f0,.int .i64 (f1:Int),.int .i64 (f2:Int),.bool false]).alloc (.cells #[.int .i64 1,.int .i64 (q:Int),.int .i64 (u:Int)] 25)
      have Y2:=SBox.new (w2.alloc (.cells #[.int .i64 f0,.int .i64 (f1:Int),.int .i64 (f2:Int),.bool false] 91)) 25 #[.int .i64 1,.int .i64 (q:Int),.int .i64 (u:Int)]
      rw [World.size_alloc] at Y2
      have l0:=X2.cell 0 _ rfl
      have l2:=X2.cell 2 _ rfl
      have l3:=X2.cell 3 _ rfl
      have k2:=(HQ.out q HQ1.out _ B2).2.2.1
      rw [HX.out] at k2
      simp only at k2
      clear m1
      go_wp2_with fail
      have S0:(fun V=>Below ((w2.alloc (.cells #[.int .i64 f0,.int .i64 (f1:Int),.int .i64 (f2:Int),.bool false] 91)).alloc (.cells #[.int .i64 1,.int .i64 (q:Int),.int .i64 (u:Int)] 25)).heap.size ((w2.alloc (.cells #[.int .i64 f0,.int .i64 (f1:Int),.int .i64 (f2:Int),.bool false] 91)).alloc (.cells #[.int .i64 1,.int .i64 (q:Int),.int .i64 (u:Int)] 25)) V∧V.cell? ⟨w2.heap.size,0,none⟩=some (.int .i64 f0)∧V.cell? ⟨w2.heap.size,2,none⟩=some (.int .i64 (f2:Int))∧V.cell? ⟨bb,off+q*4+2,none⟩=some (.string ⟨x2.toArray⟩)) ((w2.alloc (.cells #[.int .i64 f0,.int .i64 (f1:Int),.int .i64 (f2:Int),.bool false] 91)).alloc (.cells #[.int .i64 1,.int .i64 (q:Int),.int .i64 (u:Int)] 25)).drew:=⟨(Below.refl _ _).drew,l0,l2,k2⟩
      have keepS:∀ V V':World,(fun V=>Below ((w2.alloc (.cells #[.int .i64 f0,.int .i64 (f1:Int),.int .i64 (f2:Int),.bool false] 91)).alloc (.cells #[.int .i64 1,.int .i64 (q:Int),.int .i64 (u:Int)] 25)).heap.size ((w2.alloc (.cells #[.int .i64 f0,.int .i64 (f1:Int),.int .i64 (f2:Int),.bool false] 91)).alloc (.cells #[.int .i64 1,.int .i64 (q:Int),.int .i64 (u:Int)] 25)) V∧V.cell? ⟨w2.heap.size,0,none⟩=some (.int .i64 f0)∧V.cell? ⟨w2.heap.size,2,none⟩=some (.int .i64 (f2:Int))∧V.cell? ⟨bb,off+q*4+2,none⟩=some (.string ⟨x2.toArray⟩)) V→Below V.heap.size V V'→(fun V=>Below ((w2.alloc (.cells #[.int .i64 f0,.int .i64 (f1:Int),.int .i64 (f2:Int),.bool false] 91)).alloc (.cells #[.int .i64 1,.int .i64 (q:Int),.int .i64 (u:Int)] 25)).heap.size ((w2.alloc (.cells #[.int .i64 f0,.int .i64 (f1:Int),.int .i64 (f2:Int),.bool false] 91)).alloc (.cells #[.int .i64 1,.int .i64 (q:Int),.int .i64 (u:Int)] 25)) V∧V.cell? ⟨w2.heap.size,0,none⟩=some (.int .i64 f0)∧V.cell? ⟨w2.heap.size,2,none⟩=some (.int .i64 (f2:Int))∧V.cell? ⟨bb,off+q*4+2,none⟩=some (.string ⟨x2.toArray⟩)) V':=fun V V' ⟨a,a0,a1,a2⟩ d=>⟨bel_trans a d,cell_bel d a0,cell_bel d a1,cell_bel d a2⟩
      go_wp2_with fail
      go_region_held3 (fun V=>Below ((w2.alloc (.cells #[.int .i64 f0,.int .i64 (f1:Int),.int .i64 (f2:Int),.bool false] 91)).alloc (.cells #[.int .i64 1,.int .i64 (q:Int),.int .i64 (u:Int)] 25)).heap.size ((w2.alloc (.cells #[.int .i64 f0,.int .i64 (f1:Int),.int .i64 (f2:Int),.bool false] 91)).alloc (.cells #[.int .i64 1,.int .i64 (q:Int),.int .i64 (u:Int)] 25)) V∧V.cell? ⟨w2.heap.size,0,none⟩=some (.int .i64 f0)∧V.cell? ⟨w2.heap.size,2,none⟩=some (.int .i64 (f2:Int))∧V.cell? ⟨bb,off+q*4+2,none⟩=some (.string ⟨x2.toArray⟩)) (first | exact S0 | exact keepS _ _ (by assumption) (by assumption)) (first | (go_at_call 107;refine (D3 _ (bel_trans (B2) (And.left (by assumption)))).mono ?_;rintro e' w' ⟨rfl,b8⟩))
      rename_i hHeld8
      have s8:=hHeld8.1
      clear S0 keepS hHeld8
      have R3:=R2.below s8
      have B3:=bel_trans B2 s8
      have X3:=X2.below s8
      have Y3:=Y2.below s8
      clear s8 l0 l2 l3 k2
      have l0:=X3.cell 0 _ rfl
      have k1:=(HQ.out q HQ1.out _ B3).2.1
      rw [HX.out] at k1
      simp only at k1
      go_wp2_with fail
      go_quiet (fail)
      have R4:=R3.below (below_drewN (Below.refl _ _) nq)
      have B4:=below_drewN B3 nq
      have X4:=X3.below (below_drewN (Below.refl _ _) nq)
      have Y4:=Y3.below (below_drewN (Below.refl _ _) nq)
      clear l0 k1
      have l3:=X4.cell 3 _ rfl
      have y0:=Y4.cell 0 _ rfl
      have y1:=Y4.cell 1 _ rfl
      have y2:=Y4.cell 2 _ rfl
      have r0:=R4.cell 0 _ rfl
      have r1:=R4.cell 1 _ rfl
      have r2:=R4.cell 2 _ rfl
      have g0:=R4.frozen 0
      have g1:=R4.frozen 1
      have g2:=R4.frozen 2
      go_wp2_with fail
      generalize hW:World.setCell _ _ _=W
      have RW:SBox W w.heap.size 25 #[.int .i64 1,.int .i64 (q:Int),.int .i64 (u:Int)]:=by rw [← hW];exact SBox.put3 R4 _ _ _
      have BZ:Below w.heap.size w W:=by rw [← hW];exact bel_put3 B4 (Nat.le_refl _) _ _ _
      exact bodyPost_ret (v:=badA (1,(q:Int),(u:Int))) (results_row1 Tryz.results86 _ _ w.heap.size 25 _ (0,0) _ rfl RW Tryz.underlying25 rfl size_bad) rfl ⟨rfl,BZ⟩
    | true =>
      have hc:=HLC.out.1 rfl
      rw [hc]
      simp only
      rw [HN.out,HM.out]
      clear hc d
      by_cases d5:m=some u
      ·have e5:(oI m != (u:Int))=false:=by rw [d5];simp [oI]
       rw [if_pos d5]
       obtain ⟨m',hm'⟩:∃ m',oI m=m':=⟨_,rfl⟩
       rw [hm'] at D3 e5
       have e6:m'=(u:Int):=by rw [← hm',d5];rfl
       subst e6
       clear d5 hm'
       go_enter Tryz.func86,Tryz.ntmps86
       go_wp2_with fail
       have S0:(fun V=>Below (w.alloc (.cells #[.int .i64 0,.int .i64 0,.int .i64 0] 25)).heap.size (w.alloc (.cells #[.int .i64 0,.int .i64 0,.int .i64 0] 25)) V∧V.cell? ⟨bb,off+q*4+2,none⟩=some (.string ⟨x2.toArray⟩)∧V.cell? ⟨bb,off+q*4+3,none⟩=some (.string ⟨x3.toArray⟩)) (w.alloc (.cells #[.int .i64 0,.int .i64 0,.int .i64 0] 25)).drew:=⟨(Below.refl _ _).drew,c2,c3⟩
       have keepS:∀ V V':World,(fun V=>Below (w.alloc (.cells #[.int .i64 0,.int .i64 0,.int .i64 0] 25)).heap.size (w.alloc (.cells #[.int .i64 0,.int .i64 0,.int .i64 0] 25)) V∧V.cell? ⟨bb,off+q*4+2,none⟩=some (.string ⟨x2.toArray⟩)∧V.cell? ⟨bb,off+q*4+3,none⟩=some (.string ⟨x3.toArray⟩)) V→Below V.heap.size V V'→(fun V=>Below (w.alloc (.cells #[.int .i64 0,.int .i64 0,.int .i64 0] 25)).heap.size (w.alloc (.cells #[.int .i64 0,.int .i64 0,.int .i64 0] 25)) V∧V.cell? ⟨bb,off+q*4+2,none⟩=some (.string ⟨x2.toArray⟩)∧V.cell? ⟨bb,off+q*4+3,none⟩=some (.string ⟨x3.toArray⟩)) V':=fun V V' ⟨a,a0,a1⟩ d=>⟨bel_trans a d,cell_bel d a0,cell_bel d a1⟩
       go_wp2_with fail
       go_region_held3 (fun V=>Below (w.alloc (.cells #[.int .i64 0,.int .i64 0,.int .i64 0] 25)).heap.size (w.alloc (.cells #[.int .i64 0,.int .i64 0,.int .i64 0] 25)) V∧V.cell? ⟨bb,off+q*4+2,none⟩=some (.string ⟨x2.toArray⟩)∧V.cell? ⟨bb,off+q*4+3,none⟩=some (.string ⟨x3.toArray⟩)) (first | exact S0 | exact keepS _ _ (by assumption) (by assumption)) (first | (go_at_call 79;refine (D2 _ (bel_trans (B0) (And.left (by assumption)))).mono ?_;rintro e' w' ⟨rfl,b8⟩))
       rename_i hHeld8
       have s8:=hHeld8.1
       clear S0 keepS hHeld8
       have R1:=R0.below s8
       have B1:=bel_trans B0 s8
       clear s8
       have m1:=(HQ.out u HU.out _ B1).2.1
       rw [HZ.out] at m1
       simp only at m1
       go_wp2_with fail
       refine (D1 _ B1).mono ?_
       rintro e2 w2 ⟨rfl,b2⟩
       have R2:=((R1.below b2).alloc (.cells #[.int .i64 f0,.int .i64 (f1:Int),.int .i64 (f2:Int),.bool true] 91)).alloc (.cells #[.int .i64 1,.int .i64 (q:Int),.int .i64 (u:Int)] 25)
       have B2':=bel_trans B1 b2
       have B2:=(B2'.alloc B2'.size (.cells #[.int .i64 f0,.int .i64 (f1:Int),.int .i64 (f2:Int),.bool true] 91)).alloc (by have:=B2'.size;simp;omega) (.cells #[.int .i64 1,.int .i64 (q:Int),.int .i64 (u:Int)] 25)
       have X2:=(SBox.new w2 91 #[.int .i64 f0,.int .i64 (f1:Int),.int .i64 (f2:Int),.bool true]).alloc (.cells #[.int .i64 1,.int .i64 (q:Int),.int .i64 (u:Int)] 25)
       have Y2:=SBox.new (w2.alloc (.cells #[.int .i64 f0,.int .i64 (f1:Int),.int .i64 (f2:Int),.bool true] 91)) 25 #[.int .i64 1,.int .i64 (q:Int),.int .i64 (u:Int)]
       rw [World.size_alloc] at Y2
       have l0:=X2.cell 0 _ rfl
       have l2:=X2.cell 2 _ rfl
       have l3:=X2.cell 3 _ rfl
       have k2:=(HQ.out q HQ1.out _ B2).2.2.1
       rw [HX.out] at k2
       simp only at k2
       clear m1
       go_wp2_with fail
       have S0:(fun V=>Below ((w2.alloc (.cells #[.int .i64 f0,.int .i64 (f1:Int),.int .i64 (f2:Int),.bool true] 91)).alloc (.cells #[.int .i64 1,.int .i64 (q:Int),.int .i64 (u:Int)] 25)).heap.size ((w2.alloc (.cells #[.int .i64 f0,.int .i64 (f1:Int),.int .i64 (f2:Int),.bool true] 91)).alloc (.cells #[.int .i64 1,.int .i64 (q:Int),.int .i64 (u:Int)] 25)) V∧V.cell? ⟨w2.heap.size,0,none⟩=some (.int .i64 f0)∧V.cell? ⟨w2.heap.size,2,none⟩=some (.int .i64 (f2:Int))∧V.cell? ⟨bb,off+q*4+2,none⟩=some (.string ⟨x2.toArray⟩)) ((w2.alloc (.cells #[.int .i64 f0,.int .i64 (f1:Int),.int .i64 (f2:Int),.bool true] 91)).alloc (.cells #[.int .i64 1,.int .i64 (q:Int),.int .i64 (u:Int)] 25)).drew:=⟨(Below.refl _ _).drew,l0,l2,k2⟩
       have keepS:∀ V V':World,(fun V=>Below ((w2.alloc (.cells #[.int .i64 f0,.int .i64 (f1:Int),.int .i64 (f2:Int),.bool true] 91)).alloc (.cells #[.int .i64 1,.int .i64 (q:Int),.int .i64 (u:Int)] 25)).heap.size ((w2.alloc (.cells #[.int .i64 f0,.int .i64 (f1:Int),.int .i64 (f2:Int),.bool true] 91)).alloc (.cells #[.int .i64 1,.int .i64 (q:Int),.int .i64 (u:Int)] 25)) V∧V.cell? ⟨w2.heap.size,0,none⟩=some (.int .i64 f0)∧V.cell? ⟨w2.heap.size,2,none⟩=some (.int .i64 (f2:Int))∧V.cell? ⟨bb,off+q*4+2,none⟩=some (.string ⟨x2.toArray⟩)) V→Below V.heap.size V V'→(fun V=>Below ((w2.alloc (.cells #[.int .i64 f0,.int .i64 (f1:Int),.int .i64 (f2:Int),.bool true] 91)).alloc (.cells #[.int .i64 1,.int .i64 (q:Int),.int .i64 (u:Int)] 25)).heap.size ((w2.alloc (.cells #[.int .i64 f0,.int .i64 (f1:Int),.int .i64 (f2:Int),.bool true] 91)).alloc (.cells #[.int .i64 1,.int .i64 (q:Int),.int .i64 (u:Int)] 25)) V∧V.cell? ⟨w2.heap.size,0,none⟩=some (.int .i64 f0)∧V.cell? ⟨w2.heap.size,2,none⟩=some (.int .i64 (f2:Int))∧V.cell? ⟨bb,off+q*4+2,none⟩=some (.string ⟨x2.toArray⟩)) V':=fun V V' ⟨a,a0,a1,a2⟩ d=>⟨bel_trans a d,cell_bel d a0,cell_bel d a1,cell_bel d a2⟩
       go_wp2_with fail
       go_region_held3 (fun V=>Below ((w2.alloc (.cells #[.int .i64 f0,.int .i64 (f1:Int),.int .i64 (f2:Int),.bool true] 91)).alloc (.cells #[.int .i64 1,.int .i64 (q:Int),.int .i64 (u:Int)] 25)).heap.size ((w2.alloc (.cells #[.int .i64 f0,.int .i64 (f1:Int),.int .i64 (f2:Int),.bool true] 91)).alloc (.cells #[.int .i64 1,.int .i64 (q:Int),.int .i64 (u:Int)] 25)) V∧V.cell? ⟨w2.heap.size,0,none⟩=some (.int .i64 f0)∧V.cell? ⟨w2.heap.size,2,none⟩=some (.int .i64 (f2:Int))∧V.cell? ⟨bb,off+q*4+2,none⟩=some (.string ⟨x2.toArray⟩)) (first | exact S0 | exact keepS _ _ (by assumption) (by assumption)) (first | (go_at_call 107;refine (D3 _ (bel_trans (B2) (And.left (by assumption)))).mono ?_;rintro e' w' ⟨rfl,b8⟩))
       rename_i hHeld8
       have s8:=hHeld8.1
       clear S0 keepS hHeld8
       have R3:=R2.below s8
       have B3:=bel_trans B2 s8
       have X3:=X2.below s8
       have Y3:=Y2.below s8
       clear s8 l0 l2 l3 k2
       have l0:=X3.cell 0 _ rfl
       have k1:=(HQ.out q HQ1.out _ B3).2.1
       rw [HX.out] at k1
       simp only at k1
       go_wp2_with fail
       go_quiet (fail)
       have R4:=R3.below (below_drewN (Below.refl _ _) nq)
       have B4:=below_drewN B3 nq
       have X4:=X3.below (below_drewN (Below.refl _ _) nq)
       have Y4:=Y3.below (below_drewN (Below.refl _ _) nq)
       clear l0 k1
       have l3:=X4.cell 3 _ rfl
       have y0:=Y4.cell 0 _ rfl
       have y1:=Y4.cell 1 _ rfl
       have y2:=Y4.cell 2 _ rfl
       have r0:=R4.cell 0 _ rfl
       have r1:=R4.cell 1 _ rfl
       have r2:=R4.cell 2 _ rfl
       have g0:=R4.frozen 0
       have g1:=R4.frozen 1
       have g2:=R4.frozen 2
       go_wp2_with fail
       generalize hW:World.setCell _ _ _=W
       have RW:SBox W w.heap.size 25 #[.int .i64 0,.int .i64 0,.int .i64 0]:=by rw [← hW];exact SBox.put3 R4 _ _ _
       have BZ:Below w.heap.size w W:=by rw [← hW];exact bel_put3 B4 (Nat.le_refl _) _ _ _
       exact bodyPost_ret (v:=badA (0,0,0)) (results_row1 Tryz.results86 _ _ w.heap.size 25 _ (0,0) _ rfl RW Tryz.underlying25 rfl size_bad) rfl ⟨rfl,BZ⟩
      ·have e5:(oI m != (u:Int))=true:=by rw [bne_iff_ne];intro hh;exact d5 (oI_inj.1 hh)
       rw [if_neg d5]
       change Calls _ _ _ _ (fun e w'=>e=.returned (badA (2,(q:Int),oI m))∧Below w.heap.size w w')
       obtain ⟨m',hm'⟩:∃ m',oI m=m':=⟨_,rfl⟩
       rw [hm'] at D3 e5 ⊢
       clear d5 hm'
       go_enter Tryz.func86,Tryz.ntmps86
       go_wp2_with fail
       have S0:(fun V=>Below (w.alloc (.cells #[.int .i64 0,.int .i64 0,.int .i64 0] 25)).heap.size (w.alloc (.cells #[.int .i64 0,.int .i64 0,.int .i64 0] 25)) V∧V.cell? ⟨bb,off+q*4+2,none⟩=some (.string ⟨x2.toArray⟩)∧V.cell? ⟨bb,off+q*4+3,none⟩=some (.string ⟨x3.toArray⟩)) (w.alloc (.cells #[.int .i64 0,.int .i64 0,.int .i64 0] 25)).drew:=⟨(Below.refl _ _).drew,c2,c3⟩
       have keepS:∀ V V':World,(fun V=>Below (w.alloc (.cells #[.int .i64 0,.int .i64 0,.int .i64 0] 25)).heap.size (w.alloc (.cells #[.int .i64 0,.int .i64 0,.int .i64 0] 25)) V∧V.cell? ⟨bb,off+q*4+2,none⟩=some (.string ⟨x2.toArray⟩)∧V.cell? ⟨bb,off+q*4+3,none⟩=some (.string ⟨x3.toArray⟩)) V→Below V.heap.size V V'→(fun V=>Below (w.alloc (.cells #[.int .i64 0,.int .i64 0,.int .i64 0] 25)).heap.size (w.alloc (.cells #[.int .i64 0,.int .i64 0,.int .i64 0] 25)) V∧V.cell? ⟨bb,off+q*4+2,none⟩=some (.string ⟨x2.toArray⟩)∧V.cell? ⟨bb,off+q*4+3,none⟩=some (.string ⟨x3.toArray⟩)) V':=fun V V' ⟨a,a0,a1⟩ d=>⟨bel_trans a d,cell_bel d a0,cell_bel d a1⟩
       go_wp2_with fail
       go_region_held3 (fun V=>Below (w.alloc (.cells #[.int .i64 0,.int .i64 0,.int .i64 0] 25)).heap.size (w.alloc (.cells #[.int .i64 0,.int .i64 0,.int .i64 0] 25)) V∧V.cell? ⟨bb,off+q*4+2,none⟩=some (.string ⟨x2.toArray⟩)∧V.cell? ⟨bb,off+q*4+3,none⟩=some (.string ⟨x3.toArray⟩)) (first | exact S0 | exact keepS _ _ (by assumption) (by assumption)) (first | (go_at_call 79;refine (D2 _ (bel_trans (B0) (And.left (by assumption)))).mono ?_;rintro e' w' ⟨rfl,b8⟩))
       rename_i hHeld8
       have s8:=hHeld8.1
       clear S0 keepS hHeld8
       have R1:=R0.below s8
       have B1:=bel_trans B0 s8
       clear s8
       have m1:=(HQ.out u HU.out _ B1).2.1
       rw [HZ.out] at m1
       simp only at m1
       go_wp2_with fail
       refine (D1 _ B1).mono ?_
       rintro e2 w2 ⟨rfl,b2⟩
       have R2:=((R1.below b2).alloc (.cells #[.int .i64 f0,.int .i64 (f1:Int),.int .i64 (f2:Int),.bool true] 91)).alloc (.cells #[.int .i64 1,.int .i64 (q:Int),.int .i64 (u:Int)] 25)
       have B2':=bel_trans B1 b2
       have B2:=(B2'.alloc B2'.size (.cells #[.int .i64 f0,.int .i64 (f1:Int),.int .i64 (f2:Int),.bool true] 91)).alloc (by have:=B2'.size;simp;omega) (.cells #[.int .i64 1,.int .i64 (q:Int),.int .i64 (u:Int)] 25)
       have X2:=(SBox.new w2 91 #[.int .i64 f0,.int .i64 (f1:Int),.int .i64 (f2:Int),.bool true]).alloc (.cells #[.int .i64 1,.int .i64 (q:Int),.int .i64 (u:Int)] 25)
       have Y2:=SBox.new (w2.alloc (.cells #[.int .i64 f0,.int .i64 (f1:Int),.int .i64 (f2:Int),.bool true] 91)) 25 #[.int .i64 1,.int .i64 (q:Int),.int .i64 (u:Int)]
       rw [World.size_alloc] at Y2
       have l0:=X2.cell 0 _ rfl
       have l2:=X2.cell 2 _ rfl
       have l3:=X2.cell 3 _ rfl
       have k2:=(HQ.out q HQ1.out _ B2).2.2.1
       rw [HX.out] at k2
       simp only at k2
       clear m1
       go_wp2_with fail
       have S0:(fun V=>Below ((w2.alloc (.cells #[.int .i64 f0,.int .i64 (f1:Int),.int .i64 (f2:Int),.bool true] 91)).alloc (.cells #[.int .i64 1,.int .i64 (q:Int),.int .i64 (u:Int)] 25)).heap.size ((w2.alloc (.cells #[.int .i64 f0,.int .i64 (f1:Int),.int .i64 (f2:Int),.bool true] 91)).alloc (.cells #[.int .i64 1,.int .i64 (q:Int),.int .i64 (u:Int)] 25)) V∧V.cell? ⟨w2.heap.size,0,none⟩=some (.int .i64 f0)∧V.cell? ⟨w2.heap.size,2,none⟩=some (.int .i64 (f2:Int))∧V.cell? ⟨bb,off+q*4+2,none⟩=some (.string ⟨x2.toArray⟩)) ((w2.alloc (.cells #[.int .i64 f0,.int .i64 (f1:Int),.int .i64 (f2:Int),.bool true] 91)).alloc (.cells #[.int .i64 1,.int .i64 (q:Int),.int .i64 (u:Int)] 25)).drew:=⟨(Below.refl _ _).drew,l0,l2,k2⟩
       have keepS:∀ V V':World,(fun V=>Below ((w2.alloc (.cells #[.int .i64 f0,.int .i64 (f1:Int),.int .i64 (f2:Int),.bool true] 91)).alloc (.cells #[.int .i64 1,.int .i64 (q:Int),.int .i64 (u:Int)] 25)).heap.size ((w2.alloc (.cells #[.int .i64 f0,.int .i64 (f1:Int),.int .i64 (f2:Int),.bool true] 91)).alloc (.cells #[.int .i64 1,.int .i64 (q:Int),.int .i64 (u:Int)] 25)) V∧V.cell? ⟨w2.heap.size,0,none⟩=some (.int .i64 f0)∧V.cell? ⟨w2.heap.size,2,none⟩=some (.int .i64 (f2:Int))∧V.cell? ⟨bb,off+q*4+2,none⟩=some (.string ⟨x2.toArray⟩)) V→Below V.heap.size V V'→(fun V=>Below ((w2.alloc (.cells #[.int .i64 f0,.int .i64 (f1:Int),.int .i64 (f2:Int),.bool true] 91)).alloc (.cells #[.int .i64 1,.int .i64 (q:Int),.int .i64 (u:Int)] 25)).heap.size ((w2.alloc (.cells #[.int .i64 f0,.int .i64 (f1:Int),.int .i64 (f2:Int),.bool true] 91)).alloc (.cells #[.int .i64 1,.int .i64 (q:Int),.int .i64 (u:Int)] 25)) V∧V.cell? ⟨w2.heap.size,0,none⟩=some (.int .i64 f0)∧V.cell? ⟨w2.heap.size,2,none⟩=some (.int .i64 (f2:Int))∧V.cell? ⟨bb,off+q*4+2,none⟩=some (.string ⟨x2.toArray⟩)) V':=fun V V' ⟨a,a0,a1,a2⟩ d=>⟨bel_trans a d,cell_bel d a0,cell_bel d a1,cell_bel d a2⟩
       go_wp2_with fail
       go_region_held3 (fun V=>Below ((w2.alloc (.cells #[.int .i64 f0,.int .i64 (f1:Int),.int .i64 (f2:Int),.bool true] 91)).alloc (.cells #[.int .i64 1,.int .i64 (q:Int),.int .i64 (u:Int)] 25)).heap.size ((w2.alloc (.cells #[.int .i64 f0,.int .i64 (f1:Int),.int .i64 (f2:Int),.bool true] 91)).alloc (.cells #[.int .i64 1,.int .i64 (q:Int),.int .i64 (u:Int)] 25)) V∧V.cell? ⟨w2.heap.size,0,none⟩=some (.int .i64 f0)∧V.cell? ⟨w2.heap.size,2,none⟩=some (.int .i64 (f2:Int))∧V.cell? ⟨bb,off+q*4+2,none⟩=some (.string ⟨x2.toArray⟩)) (first | exact S0 | exact keepS _ _ (by assumption) (by assumption)) (first | (go_at_call 107;refine (D3 _ (bel_trans (B2) (And.left (by assumption)))).mono ?_;rintro e' w' ⟨rfl,b8⟩))
       rename_i hHeld8
       have s8:=hHeld8.1
       clear S0 keepS hHeld8
       have R3:=R2.below s8
       have B3:=bel_trans B2 s8
       have X3:=X2.below s8
       have Y3:=Y2.below s8
       clear s8 l0 l2 l3 k2
       have l0:=X3.cell 0 _ rfl
       have k1:=(HQ.out q HQ1.out _ B3).2.1
       rw [HX.out] at k1
       simp only at k1
       go_wp2_with fail
       go_quiet (fail)
       have R4:=R3.below (below_drewN (Below.refl _ _) nq)
       have B4:=below_drewN B3 nq
       have X4:=X3.below (below_drewN (Below.refl _ _) nq)
       have Y4:=Y3.below (below_drewN (Below.refl _ _) nq)
       clear l0 k1
       have l3:=X4.cell 3 _ rfl
       have y0:=Y4.cell 0 _ rfl
       have y1:=Y4.cell 1 _ rfl
       have y2:=Y4.cell 2 _ rfl
       have r0:=R4.cell 0 _ rfl
       have r1:=R4.cell 1 _ rfl
       have r2:=R4.cell 2 _ rfl
       have g0:=R4.frozen 0
       have g1:=R4.frozen 1
       have g2:=R4.frozen 2
       go_wp2_with fail
       generalize hW:World.setCell _ _ _=W
       have RW:SBox W w.heap.size 25 #[.int .i64 2,.int .i64 (q:Int),.int .i64 m']:=by rw [← hW];exact SBox.put3 R4 _ _ _
       have BZ:Below w.heap.size w W:=by rw [← hW];exact bel_put3 B4 (Nat.le_refl _) _ _ _
       exact bodyPost_ret (v:=badA (2,(q:Int),m')) (results_row1 Tryz.results86 _ _ w.heap.size 25 _ (0,0) _ rfl RW Tryz.underlying25 rfl size_bad) rfl ⟨rfl,BZ⟩
end Go.Proofs.YtdlcimfifkhllaaGreat
