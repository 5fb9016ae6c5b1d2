/-
  What cartoucheref12.Judge answers.
-/
import Derived.Test.YthamoeekiglphaaGreatDoorER8Formed
import Derived.Test.YthamoeekiglphaaGreatDoorER10All
import Derived.Test.YthamoeekiglphaaGreatDoorER10Steps
import Derived.Test.YthamoeekiglphaaGreatDoorER11Order
import Derived.Test.YthamoeekiglphaaGreatDoorER11Ring
namespace Go.Proofs.YthamoeekiglphaaGreatDoor
set_option maxRecDepth 100000
open Go.RowKit
set_option linter.unusedVariables false
attribute [local go_sem] ba_size
set_option maxHeartbeats 8000000 in
theorem rjudge_any (h:List Ev) (v:Value) (w:World) (level:Int) (hT:IsEvs w v h) :
 Calls Tryz.prog 64 #[v,.int .i64 level] w fun e w'=>VRes w (judgeL h level) e w':=by
 have R0:=SBox.new w 27 #[.int .i64 0,.bool false,.slice none 0 0,.int .i64 0,.int .i64 0,.int .i64 0,.slice none 0 0];have B0:=(Below.refl w.heap.size w).alloc (Nat.le_refl _) (.cells #[.int .i64 0,.bool false,.slice none 0 0,.int .i64 0,.int .i64 0,.int .i64 0,.slice none 0 0] 27);have CF:=fun W (hW:Below w.heap.size w W)=>rformed_any h v W (hT.below hW)
 by_cases hl:level=1∨level=2
 ·by_cases hf:(formedL h).2=0
  ·have hw:=(formed_ok h).1 hf
   obtain ⟨l1,l2,l3,l4⟩:=wf_bounds hw level;have hlen:=hw.1;have CB:=fun W (hW:Below w.heap.size w W)=>rbads_any h v W (hT.below hW) (by omega)
   have CA:=fun W (hW:Below w.heap.size w W)=>rall10_any h v W (hT.below hW) (by omega) (wf_keys hw)
   have CN:=fun W (hW:Below w.heap.size w W)=>rnodes_any h v W (hT.below hW)
   have CS:=fun ve W (hE:IsEds W ve (edgesL h))=>rsteps_any level (edgesL h) ve W hE (by omega)
   have CO:=fun vn vs W (hN:IsInts W vn (nodeL h)) (hS:Shp vn) (hs:IsSts W vs (stepsL level (edgesL h)))=>rorder_any vn vs (nodeL h) (stepsL level (edgesL h)) W hN hS hs (by omega)
   have CR:=fun vs W (hs:IsSts W vs (stepsL level (edgesL h)))=>rring_any vs (stepsL level (edgesL h)) W hs (by omega)
   have CL:=fun vr W (r:List Stp) (hr:IsSts W vr r) (hb:(flatL r).length≤1000000000000)=>rflat_any vr r W hr hb
   rw [hf] at CF;obtain ⟨fp,hfp⟩:∃ fp,(formedL h).1=fp:=⟨_,rfl⟩;rw [hfp] at CF;obtain ⟨a,cap,rfl,_⟩:=hT.some_at;have hfin:∀ r,judgeL h level=r→Hid (judgeL h level=r):=fun r e=>e
   obtain ⟨n,hn⟩:∃ n,h.length=n:=⟨_,rfl⟩;cases hb:badsL h with
   | cons b rb =>
     obtain ⟨b0,b1',b2'⟩:=b;rw [judge_bad h level hl hf _ rb hb];have hbl:(badsL h).length≤256:=by have:=bads_len h;omega
     rw [hb] at CB hbl;simp only [hn] at *;clear hT hfp hn;have hl2:(level != 1)=false∨(level != 1)=true∧(level != 2)=false:=by rcases hl with rfl | rfl<;>decide
     clear hl;rcases hl2 with x1 | ⟨x1,x2⟩
     all_goals
      go_enter Tryz.func64,Tryz.ntmps64
      go_wp2_with fail
      refine (CF _ B0).mono ?_;rintro e1 w1 ⟨rfl,b1⟩;have B1:=bel_trans B0 b1;have R1:=R0.below b1;go_wp2_with fail
      refine (CB _ B1).mono ?_;rintro e2 w2 ⟨vb,rfl,b2,o2⟩;have B2:=bel_trans B1 b2;have R2:=R1.below b2;obtain ⟨g,cc,rfl,k1,k2⟩:=own_some12 o2 (by simp);have j0:(0:Int) < ((rb.length+1:Nat):Int):=by omega
      have q0:=o2.cellAt 0 (by simp only [List.length_cons];omega);have q1:=o2.cellAt 1 (by simp only [List.length_cons];omega);have q2:=o2.cellAt 2 (by simp only [List.length_cons];omega);simp only [recV,badV,List.flatMap_cons,List.cons_append,List.getElem?_cons_zero,List.getElem?_cons_succ] at q0 q1 q2;have r0:=R2.cell 0 _ rfl;have g0:=R2.frozen 0;have r1:=R2.cell 1 _ rfl;have g1:=R2.frozen 1;have r2:=R2.cell 2 _ rfl;have g2:=R2.frozen 2;have r3:=R2.cell 3 _ rfl;have g3:=R2.frozen 3;have r4:=R2.cell 4 _ rfl;have g4:=R2.frozen 4;have r5:=R2.cell 5 _ rfl;have g5:=R2.frozen 5;have r6:=R2.cell 6 _ rfl;have g6:=R2.frozen 6;go_wp2_with fail
      generalize hW:World.setCell _ _ _=W;have RW:SBox W w.heap.size 27 #[.int .i64 level,.bool false,.slice none 0 0,.int .i64 b0,.int .i64 b1',.int .i64 b2',.slice none 0 0]:=by rw [← hW];exact SBox.put7 R2 _ _ _ _ _ _ _
      have BZ:Below w.heap.size w W:=by rw [← hW];exact bel_put7 B2 (Nat.le_refl _) _ _ _ _ _ _ _
      have O1:W.ownsRow w.heap.size 3 1 (.slice none 0 0) 0 (recV intV []):=World.ownsRow_nil _ _ _ _;have O2:W.ownsRow w.heap.size 32 5 (.slice none 0 0) 0 (recV edV []):=World.ownsRow_nil _ _ _ _;exact bodyPost_ret (v:=.tuple #[.agg #[.int .i64 level,.bool false,.slice none 0 0,.int .i64 b0,.int .i64 b1',.int .i64 b2',.slice none 0 0],.int .i64 0]) (results_row_tmp Tryz.results64 _ _ w.heap.size 27 _ (0,0) _ rfl RW Tryz.underlying27 rfl size_vd) rfl ⟨_,_,rfl,BZ,O1,O2⟩
   | nil =>
     cases ho:orderL (nodeL h) (stepsL level (edgesL h)) with
     | some o =>
       rw [judge_order h level hl hf hb o ho];have hol:o.length≤301:=by have:=orderF_few _ (nodeL h).length (nodeL h) o ho;omega
       rw [ho] at CO;rw [hb] at CB;obtain ⟨EL,hEL⟩:∃ x,edgesL h=x:=⟨_,rfl⟩;rw [hEL] at CA CS CO l1 l2 l4;obtain ⟨NL,hNL⟩:∃ x,nodeL h=x:=⟨_,rfl⟩;rw [hNL] at CN CO l3;simp only [hn] at *;clear hT hfp hn hEL hNL ho hb;have hl2:(level != 1)=false∨(level != 1)=true∧(level != 2)=false:=by rcases hl with rfl | rfl<;>decide
       clear hl;rcases hl2 with x1 | ⟨x1,x2⟩
       all_goals
        go_enter Tryz.func64,Tryz.ntmps64
        go_wp2_with fail
        refine (CF _ B0).mono ?_;rintro e1 w1 ⟨rfl,b1⟩;have B1:=bel_trans B0 b1;have R1:=R0.below b1;go_wp2_with fail
        refine (CB _ B1).mono ?_;rintro e2 w2 ⟨vb,rfl,b2,o2⟩;have B2:=bel_trans B1 b2;have R2:=R1.below b2;obtain ⟨gb,cb,rfl⟩:=own_shape12 o2;go_wp2_with fail
        refine (CA _ B2).mono ?_;rintro e3 w3 ⟨ve,rfl,b3,o3⟩;have B3:=bel_trans B2 b3;have R3:=R2.below b3;have T3:=IsRec.own (L:=EL) edV_len (by omega) o3 (by omega);go_wp2_with fail
        refine (CS _ _ T3).mono ?_;rintro e4 w4 ⟨vs,Ls,rfl,b4,o4,s4⟩;have B4:=bel_trans B3 b4;have R4:=R3.below b4;have T4:=IsSts.own o4 s4 (by rw [s4.1];omega);obtain ⟨gs,cs,rfl⟩:=own_shape12 o4;go_wp2_with fail
        refine (CN _ B4).mono ?_;rintro e5 w5 ⟨vn,rfl,b5,o5⟩;have B5:=bel_trans B4 b5;have R5:=R4.below b5;have T5:=ints_own (l:=NL) o5 (by omega);have S5:=Shp.own o5;go_wp2_with fail
        refine (CO _ _ _ T5 S5 (T4.below b5)).mono ?_;rintro e6 w6 ⟨vo,rfl,b6,o6⟩;have B6:=bel_trans B5 b6;have R6:=R5.below b6;simp only [Option.getD_some] at o6;obtain ⟨go,co,rfl⟩:=own_shape12 o6;have r0:=R6.cell 0 _ rfl;have g0:=R6.frozen 0;have r1:=R6.cell 1 _ rfl;have g1:=R6.frozen 1;have r2:=R6.cell 2 _ rfl;have g2:=R6.frozen 2;have r3:=R6.cell 3 _ rfl;have g3:=R6.frozen 3;have r4:=R6.cell 4 _ rfl;have g4:=R6.frozen 4;have r5:=R6.cell 5 _ rfl;have g5:=R6.frozen 5;have r6:=R6.cell 6 _ rfl;have g6:=R6.frozen 6;go_wp2_with fail
        generalize hW:World.setCell _ _ _=W;have RW:SBox W w.heap.size 27 #[.int .i64 level,.bool true,.slice go o.length co,.int .i64 0,.int .i64 0,.int .i64 0,.slice none 0 0]:=by rw [← hW];exact SBox.put7 R6 _ _ _ _ _ _ _
        have BZ:Below w.heap.size w W:=by rw [← hW];exact bel_put7 B6 (Nat.le_refl _) _ _ _ _ _ _ _
        have O1:W.ownsRow w.heap.size 3 1 (.slice go o.length co) o.length (recV intV o):=by rw [← hW];exact owns_put7 (owns_base12 o6 B5.size) (block_not_row R6 (by decide) o6) _ _ _ _ _ _ _
        have O2:W.ownsRow w.heap.size 32 5 (.slice none 0 0) 0 (recV edV []):=World.ownsRow_nil _ _ _ _;exact bodyPost_ret (v:=.tuple #[.agg #[.int .i64 level,.bool true,.slice go o.length co,.int .i64 0,.int .i64 0,.int .i64 0,.slice none 0 0],.int .i64 0]) (results_row_tmp Tryz.results64 _ _ w.heap.size 27 _ (0,0) _ rfl RW Tryz.underlying27 rfl size_vd) rfl ⟨_,_,rfl,BZ,O1,O2⟩
     | none =>
       rw [judge_ring h level hl hf hb ho];rw [ho] at CO;rw [hb] at CB;obtain ⟨EL,hEL⟩:∃ x,edgesL h=x:=⟨_,rfl⟩;rw [hEL] at CA CS CO CR l1 l2 l4 ⊢;obtain ⟨NL,hNL⟩:∃ x,nodeL h=x:=⟨_,rfl⟩;rw [hNL] at CN CO l3
       have hRL:Hid (((ringL (stepsL level EL)).getD []).length≤262656):=by
        show _≤_;cases hr:ringL (stepsL level EL) with
        | none=>simp
        | some r =>
          rcases ringL_few _ r hr with h4 | h4
          ·simp only [Option.getD_some];omega
          ·rw [h4] at hr;cases hr
       obtain ⟨RR,hRR⟩:∃ x,ringL (stepsL level EL)=x:=⟨_,rfl⟩;rw [hRR] at CR l4 hRL ⊢;simp only [hn] at *;clear hT hfp hn hEL hNL ho hb hRR;have hl2:(level != 1)=false∨(level != 1)=true∧(level != 2)=false:=by rcases hl with rfl | rfl<;>decide
       clear hl;rcases hl2 with x1 | ⟨x1,x2⟩
       all_goals
        go_enter Tryz.func64,Tryz.ntmps64
        go_wp2_with fail
        refine (CF _ B0).mono ?_;rintro e1 w1 ⟨rfl,b1⟩;have B1:=bel_trans B0 b1;have R1:=R0.below b1;go_wp2_with fail
        refine (CB _ B1).mono ?_;rintro e2 w2 ⟨vb,rfl,b2,o2⟩;have B2:=bel_trans B1 b2;have R2:=R1.below b2;obtain ⟨gb,cb,rfl⟩:=own_shape12 o2;go_wp2_with fail
        refine (CA _ B2).mono ?_;rintro e3 w3 ⟨ve,rfl,b3,o3⟩;have B3:=bel_trans B2 b3;have R3:=R2.below b3;have T3:=IsRec.own (L:=EL) edV_len (by omega) o3 (by omega);go_wp2_with fail
        refine (CS _ _ T3).mono ?_;rintro e4 w4 ⟨vs,Ls,rfl,b4,o4,s4⟩;have B4:=bel_trans B3 b4;have R4:=R3.below b4;have T4:=IsSts.own o4 s4 (by rw [s4.1];omega);obtain ⟨gs,cs,rfl⟩:=own_shape12 o4;go_wp2_with fail
        refine (CN _ B4).mono ?_;rintro e5 w5 ⟨vn,rfl,b5,o5⟩;have B5:=bel_trans B4 b5;have R5:=R4.below b5;have T5:=ints_own (l:=NL) o5 (by omega);have S5:=Shp.own o5;go_wp2_with fail
        refine (CO _ _ _ T5 S5 (T4.below b5)).mono ?_;rintro e6 w6 ⟨vo,rfl,b6,o6⟩;have B6:=bel_trans B5 b6;have R6:=R5.below b6;obtain ⟨go,co,rfl⟩:=own_shape12 o6;go_wp2_with fail
        refine (CR _ _ (T4.below (bel_trans b5 b6))).mono ?_;rintro e7 w7 ⟨vr,Lr,rfl,b7,o7,s7⟩;have B7:=bel_trans B6 b7;have R7:=R6.below b7;have T7:=IsSts.own o7 s7 (by rw [s7.1];exact Nat.le_trans hRL.out (by omega));obtain ⟨gr,cr,rfl⟩:=own_shape12 o7;go_wp2_with fail
        refine (CL _ _ _ T7 (by omega)).mono ?_;rintro e8 w8 ⟨vf,rfl,b8,o8⟩;have B8:=bel_trans B7 b8;have R8:=R7.below b8;obtain ⟨gf,cf,rfl⟩:=own_shape12 o8;have r0:=R8.cell 0 _ rfl;have g0:=R8.frozen 0;have r1:=R8.cell 1 _ rfl;have g1:=R8.frozen 1;have r2:=R8.cell 2 _ rfl;have g2:=R8.frozen 2;have r3:=R8.cell 3 _ rfl;have g3:=R8.frozen 3;have r4:=R8.cell 4 _ rfl;have g4:=R8.frozen 4;have r5:=R8.cell 5 _ rfl;have g5:=R8.frozen 5;have r6:=R8.cell 6 _ rfl;have g6:=R8.frozen 6;go_wp2_with fail
        generalize hW:World.setCell _ _ _=W;have RW:SBox W w.heap.size 27 #[.int .i64 level,.bool false,.slice none 0 0,.int .i64 0,.int .i64 0,.int .i64 0,.slice gf (flatL (RR.getD [])).length cf]:=by rw [← hW];exact SBox.put7 R8 _ _ _ _ _ _ _
        have BZ:Below w.heap.size w W:=by rw [← hW];exact bel_put7 B8 (Nat.le_refl _) _ _ _ _ _ _ _
        have O1:W.ownsRow w.heap.size 3 1 (.slice none 0 0) 0 (recV intV []):=World.ownsRow_nil _ _ _ _;have O2:W.ownsRow w.heap.size 32 5 (.slice gf (flatL (RR.getD [])).length cf) (flatL (RR.getD [])).length (recV edV (flatL (RR.getD []))):=by rw [← hW];exact owns_put7 (owns_base12 o8 B7.size) (block_not_row R8 (by decide) o8) _ _ _ _ _ _ _
        exact bodyPost_ret (v:=.tuple #[.agg #[.int .i64 level,.bool false,.slice none 0 0,.int .i64 0,.int .i64 0,.int .i64 0,.slice gf (flatL (RR.getD [])).length cf],.int .i64 0]) (results_row_tmp Tryz.results64 _ _ w.heap.size 27 _ (0,0) _ rfl RW Tryz.underlying27 rfl size_vd) rfl ⟨_,_,rfl,BZ,O1,O2⟩
  ·rw [judge_form h level hl hf]
   have hf2:(((formedL h).2:Int) != 0)=true:=bne_iff_ne.2 (by omega);obtain ⟨fp,hfp⟩:∃ fp,(formedL h).1=fp:=⟨_,rfl⟩;obtain ⟨fe,hfe⟩:∃ fe,(formedL h).2=fe:=⟨_,rfl⟩;rw [hfp,hfe] at CF;rw [hfe] at hf2 ⊢;obtain ⟨a,cap,rfl,_⟩:=hT.some_at;obtain ⟨n,hn⟩:∃ n,h.length=n:=⟨_,rfl⟩;rw [hn] at CF ⊢;clear hT hf hfp hfe hn;have hl2:(level != 1)=false∨(level != 1)=true∧(level != 2)=false:=by rcases hl with rfl | rfl<;>decide
   clear hl;rcases hl2 with x1 | ⟨x1,x2⟩
   all_goals
    go_enter Tryz.func64,Tryz.ntmps64
    go_wp2_with fail
    refine (CF _ B0).mono ?_;rintro e1 w1 ⟨rfl,b1⟩;have B1:=bel_trans B0 b1;have R1:=R0.below b1;have r0:=R1.cell 0 _ rfl;have g0:=R1.frozen 0;have r1:=R1.cell 1 _ rfl;have g1:=R1.frozen 1;have r2:=R1.cell 2 _ rfl;have g2:=R1.frozen 2;have r3:=R1.cell 3 _ rfl;have g3:=R1.frozen 3;have r4:=R1.cell 4 _ rfl;have g4:=R1.frozen 4;have r5:=R1.cell 5 _ rfl;have g5:=R1.frozen 5;have r6:=R1.cell 6 _ rfl;have g6:=R1.frozen 6;go_wp2_with fail
    generalize hW:World.setCell _ _ _=W;have RW:SBox W w.heap.size 27 #[.int .i64 0,.bool false,.slice none 0 0,.int .i64 0,.int .i64 0,.int .i64 0,.slice none 0 0]:=by rw [← hW];exact SBox.put7 R1 _ _ _ _ _ _ _
    have BZ:Below w.heap.size w W:=by rw [← hW];exact bel_put7 B1 (Nat.le_refl _) _ _ _ _ _ _ _
    have O1:W.ownsRow w.heap.size 3 1 (.slice none 0 0) 0 (recV intV []):=World.ownsRow_nil _ _ _ _;have O2:W.ownsRow w.heap.size 32 5 (.slice none 0 0) 0 (recV edV []):=World.ownsRow_nil _ _ _ _;exact bodyPost_ret (v:=.tuple #[.agg #[.int .i64 0,.bool false,.slice none 0 0,.int .i64 0,.int .i64 0,.int .i64 0,.slice none 0 0],.int .i64 (fe:Int)]) (results_row_tmp Tryz.results64 _ _ w.heap.size 27 _ (0,0) _ rfl RW Tryz.underlying27 rfl size_vd) rfl ⟨_,_,rfl,BZ,O1,O2⟩
 ·have n1:(level != 1)=true:=bne_iff_ne.2 (by omega)
  have n2:(level != 2)=true:=bne_iff_ne.2 (by omega);rw [judge_arg h level (by omega) (by omega)];obtain ⟨a,cap,rfl,_⟩:=hT.some_at;obtain ⟨n,hn⟩:∃ n,h.length=n:=⟨_,rfl⟩;rw [hn] at CF ⊢;clear hT hl CF hn;go_enter Tryz.func64,Tryz.ntmps64
  go_wp2_with fail
  exact bodyPost_ret (v:=.tuple #[.agg #[.int .i64 0,.bool false,.slice none 0 0,.int .i64 0,.int .i64 0,.int .i64 0,.slice none 0 0],.int .i64 1]) (results_row_tmp Tryz.results64 _ _ w.heap.size 27 _ (0,0) _ rfl R0 Tryz.underlying27 rfl size_vd) rfl ⟨_,_,rfl,B0,World.ownsRow_nil _ _ _ _,World.ownsRow_nil _ _ _ _⟩
end Go.Proofs.YthamoeekiglphaaGreatDoor
