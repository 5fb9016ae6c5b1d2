/-
  What lean.Bad answers.
-/
import Derived.Test.YthamoeekiglphaaGreatDoorEL0e
namespace Go.Proofs.YthamoeekiglphaaGreatDoor
set_option maxRecDepth 100000
open Go.RowKit
set_option linter.unusedVariables false
attribute [local go_sem] ba_size farW_cell
theorem run_pf_ev15 (p0 u0 u1:Int) (u2 u3:ByteArray) (s:Value) (V:World):(Instr.field 55 (.agg #[.int .i64 p0,.int .i64 u0,.int .i64 u1,.string u2,.string u3,s]) 1).run Tryz.prog V=.ok (.agg #[.int .i64 u0,.int .i64 u1,.string u2,.string u3]) V:=by kernel_rfl
theorem run_ev_kind15 (u0 u1:Int) (u2 u3:ByteArray) (V:World):(Instr.field 53 (.agg #[.int .i64 u0,.int .i64 u1,.string u2,.string u3]) 0).run Tryz.prog V=.ok (.int .i64 u0) V:=by kernel_rfl
attribute [local go_sem] run_pf_ev15 run_ev_kind15
set_option maxHeartbeats 16000000 in
theorem pbad15_any (l:List Pf) (v:Value) (w:World) (hP:IsPfs w v l) (bk bi bj:Int) :
 Calls Tryz.prog 15 #[v,.agg #[.int .i64 bk,.int .i64 bi,.int .i64 bj]] w fun e w'=>e=.returned (.bool (badB l (bk,bi,bj)))∧Below w.heap.size w w':=by
 have CE0:=fun (i:Int) V (hV:Below w.heap.size w V)=>pevent15_any l v V (hP.below hV) i
 have CC0:=fun (t:Int) V (hV:Below w.heap.size w V)=>pcommit15_any l v V (hP.below hV) t
 have CD0:=fun (t:Int) V (hV:Below w.heap.size w V)=>pends15_any l v V (hP.below hV) t
 have CO0:=fun (x:Ev) (t p:Int) V (hV:Below w.heap.size w V)=>pover15_any l v V (hP.below hV) x t p
 have CL0:=fun (x:Ev) (k i j:Int) V (hV:Below w.heap.size w V)=>plast15_any l v V (hP.below hV) x k i j
 obtain ⟨a,cap,rfl,k1,k2,k3⟩:=hP.len;obtain ⟨nn,hn⟩:∃ n,l.length=n:=⟨_,rfl⟩;rw [hn] at k1 k3 CE0 CC0 CD0 CO0 CL0 ⊢;have CE:=Lib.hid CE0;have CC:=Lib.hid CC0;have CD:=Lib.hid CD0;have CO:=Lib.hid CO0;have CL:=Lib.hid CL0;have HB:Hid (∀ X Y,evP l bi=X→evP l bj=Y→badB l (bk,bi,bj)=(decide (0≤bi)&&decide (X.1=2)&&decide (bi < comP l X.2.1)&&decide (Y.1=3)&&decide (Y.2.2.1=X.2.2.1)&&kindB l (bk,bi,bj) X Y)):=fun X Y h1 h2=>by rw [← h1,← h2];rfl
 obtain ⟨⟨x0,x1,x2,x3⟩,hx⟩:∃ x,evP l bi=x:=⟨_,rfl⟩;obtain ⟨⟨y0,y1,y2,y3⟩,hy⟩:∃ x,evP l bj=x:=⟨_,rfl⟩;have HX:=Lib.hid hx;have HY:=Lib.hid hy;obtain ⟨rr,hrr⟩:∃ r,badB l (bk,bi,bj)=r:=⟨_,rfl⟩;have HR0:Hid ((decide (0≤bi)&&decide (x0=2)&&decide (bi < comP l x1)&&decide (y0=3)&&decide (y2=x2)&&kindB l (bk,bi,bj) (x0,x1,x2,x3) (y0,y1,y2,y3))=rr):=(HB.out _ _ hx hy).symm.trans hrr;rw [hrr]
 have HCm:Hid (∀ z,cmP l x1=z→decide (bi < comP l x1)=(!decide (bi < 0)&&!decide (z≤bi))∨bi < 0):=fun z hz=>by
  by_cases h0:bi < 0
  ·exact .inr h0
  ·refine .inl ?_
   rw [← hz,cmP_is]
   by_cases h1:0≤comP l x1
   ·rw [if_pos h1,decide_eq_false h0,Bool.not_false,Bool.true_and,← decide_not]
    exact decide_eq_decide.2 (by omega)
   ·rw [if_neg h1,decide_eq_false h0,decide_eq_false (by omega),decide_eq_true (by omega)];rfl
 clear CE0 CC0 CD0 CO0 CL0 hn hP hx hy HB hrr;have X0:=SBox.new w 24 #[.int .i64 bk,.int .i64 bi,.int .i64 bj];have B0:=(Below.refl w.heap.size w).alloc (Nat.le_refl _) (.cells #[.int .i64 bk,.int .i64 bi,.int .i64 bj] 24);go_enter Tryz.func15,Tryz.ntmps15
 go_upto_region 1 with fail
 go_cut [5,6] from 9 to 16 (fun s5 s6 W=>∃ bx cy,s5=.pointer (some ⟨bx,0,none⟩)∧s6=.pointer (some ⟨cy,0,none⟩)∧TwoE w W 24 #[.int .i64 bk,.int .i64 bi,.int .i64 bj] bx cy (x0,x1,x2,x3) (y0,y1,y2,y3))
 case first =>
  refine wp_region_any (by kernel_rfl) ?_;change wpAny _ _ _ _ _ _ _ (World.drew _);generalize hwd:World.drew _=wd;have T:TwoS w wd 24 #[.int .i64 bk,.int .i64 bi,.int .i64 bj] none none:=by rw [← hwd];exact ⟨B0.drew,X0,fun b e=>(by cases e),fun b e=>(by cases e),fun b c e=>(by cases e)⟩
  clear hwd B0 X0;refine any_of_C (C:=fun V=>V.cell? ⟨w.heap.size,1,none⟩=some (.int .i64 bi)∧V.cell? ⟨w.heap.size,2,none⟩=some (.int .i64 bj)) 11 _ _ _ _ ?_;refine takeD 0 (.slice a nn cap) rfl (by kernel_rfl) (fun _ _ _ h=>h) (fun V hV=>by obtain ⟨r0,r1⟩:=hV;go_simp) ?_;refine takeD 1 (.pointer (some ⟨w.heap.size,1,none⟩)) rfl (by kernel_rfl) (fun _ _ _ h=>h) (fun V hV=>by obtain ⟨r0,r1⟩:=hV;go_simp) ?_;refine takeD 2 (.int .i64 bi) rfl (by kernel_rfl) (fun _ _ _ h=>h) (fun V hV=>by obtain ⟨r0,r1⟩:=hV;go_simp) ?_;refine takeD 4 (.slice a nn cap) rfl (by kernel_rfl) (fun _ _ _ h=>h) (fun V hV=>by obtain ⟨r0,r1⟩:=hV;go_simp) ?_;refine takeD 5 (.pointer (some ⟨w.heap.size,2,none⟩)) rfl (by kernel_rfl) (fun _ _ _ h=>h) (fun V hV=>by obtain ⟨r0,r1⟩:=hV;go_simp) ?_
  refine takeD 6 (.int .i64 bj) rfl (by kernel_rfl) (fun _ _ _ h=>h) (fun V hV=>by obtain ⟨r0,r1⟩:=hV;go_simp) ?_;refine fork3 (i:=3) (j:=8) (k:=9) (by kernel_rfl) (by kernel_rfl) ⟨T.bx.cell 1 _ rfl,T.bx.cell 2 _ rfl⟩ rfl rfl rfl (fun K hK=>?_) (fun K hK=>?_) (fun K hK=>?_)
  ·skip
   go_wp2_with fail
   refine (CE.out bi _ T.bel).mono ?_;rintro e W1 ⟨rfl,b1⟩;replace T:=T.below b1;clear b1;rw [HX.out];go_wp2_with fail
   refine fork3 (i:=7) (j:=8) (k:=9) (by kernel_rfl) (by kernel_rfl) ⟨T.bx.cell 1 _ rfl,T.bx.cell 2 _ rfl⟩ rfl rfl rfl (fun K hK=>?_) (fun K hK=>?_) (fun K hK=>?_)
   ·skip
    go_wp2_with fail
    refine (CE.out bj _ T.bel).mono ?_;rintro e W2 ⟨rfl,b1⟩;replace T:=T.below b1;clear b1;rw [HY.out];go_wp2_with fail
    refine fork2 (i:=8) (j:=9) (by kernel_rfl) (by kernel_rfl) ⟨T.bx.cell 1 _ rfl,T.bx.cell 2 _ rfl⟩ rfl rfl (fun K hK=>?_) (fun K hK=>?_)
    ·skip
     go_wp2_with fail
     replace T:=T.alloc5;generalize World.alloc _ _=W3 at T ⊢;refine consC (i:=9) (by kernel_rfl) (by kernel_rfl) ⟨T.bx.cell 1 _ rfl,T.bx.cell 2 _ rfl⟩ rfl (fun K hK=>?_);go_wp2_with fail
     replace T:=T.alloc6;generalize World.alloc _ _=W4 at T ⊢;have g5:=(T.x5 _ rfl).1;have N:=T.put (x0,x1,x2,x3);have p0:=g5.cell 0 _ rfl;have q0:=g5.frozen 0;have p1:=g5.cell 1 _ rfl;have q1:=g5.frozen 1;have p2:=g5.cell 2 _ rfl;have q2:=g5.frozen 2;have p3:=g5.cell 3 _ rfl;have q3:=g5.frozen 3;have HN:=Lib.hid N;clear N g5;refine consC (i:=10) (by kernel_rfl) (by kernel_rfl) ⟨T.bx.cell 1 _ rfl,T.bx.cell 2 _ rfl⟩ rfl (fun K hK=>?_);have HT:=Lib.hid T;clear T;go_wp2_with fail
     have N:=HN.out;clear p0 p1 p2 p3 q0 q1 q2 q3 HN HT;change OneS _ (World.setCell _ _ _) _ _ _ _ _ at N;generalize World.setCell _ _ _=WN at N ⊢;have g6:=N.x6;have E:=N.put (y0,y1,y2,y3);have p0:=g6.cell 0 _ rfl;have q0:=g6.frozen 0;have p1:=g6.cell 1 _ rfl;have q1:=g6.frozen 1;have p2:=g6.cell 2 _ rfl;have q2:=g6.frozen 2;have p3:=g6.cell 3 _ rfl;have q3:=g6.frozen 3;have HE:=Lib.hid E;clear E;refine lastC (by kernel_rfl) (by kernel_rfl) ⟨N.bx.cell 1 _ rfl,N.bx.cell 2 _ rfl⟩ (of_decide_eq_true (by kernel_rfl)) ?_;refine any_seqI [11] [_] _ _ _ rfl (by kernel_rfl) ?_;clear N g6;go_wp2_with fail
     go_meet
     exact ⟨_,_,rfl,rfl,HE.out⟩
    ·skip
     go_wp2_with fail
     replace T:=T.alloc6;generalize World.alloc _ _=W5 at T ⊢;refine consC (i:=8) (by kernel_rfl) (by kernel_rfl) ⟨T.bx.cell 1 _ rfl,T.bx.cell 2 _ rfl⟩ rfl (fun K hK=>?_);go_wp2_with fail
     replace T:=T.alloc5;generalize World.alloc _ _=W6 at T ⊢;have g5:=(T.x5 _ rfl).1;have N:=T.put (x0,x1,x2,x3);have p0:=g5.cell 0 _ rfl;have q0:=g5.frozen 0;have p1:=g5.cell 1 _ rfl;have q1:=g5.frozen 1;have p2:=g5.cell 2 _ rfl;have q2:=g5.frozen 2;have p3:=g5.cell 3 _ rfl;have q3:=g5.frozen 3;have HN:=Lib.hid N;clear N g5;refine consC (i:=10) (by kernel_rfl) (by kernel_rfl) ⟨T.bx.cell 1 _ rfl,T.bx.cell 2 _ rfl⟩ rfl (fun K hK=>?_);have HT:=Lib.hid T;clear T;go_wp2_with fail
     have N:=HN.out;clear p0 p1 p2 p3 q0 q1 q2 q3 HN HT;change OneS _ (World.setCell _ _ _) _ _ _ _ _ at N;generalize World.setCell _ _ _=WN at N ⊢;have g6:=N.x6;have E:=N.put (y0,y1,y2,y3);have p0:=g6.cell 0 _ rfl;have q0:=g6.frozen 0;have p1:=g6.cell 1 _ rfl;have q1:=g6.frozen 1;have p2:=g6.cell 2 _ rfl;have q2:=g6.frozen 2;have p3:=g6.cell 3 _ rfl;have q3:=g6.frozen 3;have HE:=Lib.hid E;clear E;refine lastC (by kernel_rfl) (by kernel_rfl) ⟨N.bx.cell 1 _ rfl,N.bx.cell 2 _ rfl⟩ (of_decide_eq_true (by kernel_rfl)) ?_;refine any_seqI [11] [_] _ _ _ rfl (by kernel_rfl) ?_;clear N g6;go_wp2_with fail
     go_meet
     exact ⟨_,_,rfl,rfl,HE.out⟩
   ·skip
    go_wp2_with fail
    replace T:=T.alloc5;generalize World.alloc _ _=W7 at T ⊢;refine fork2 (i:=7) (j:=9) (by kernel_rfl) (by kernel_rfl) ⟨T.bx.cell 1 _ rfl,T.bx.cell 2 _ rfl⟩ rfl rfl (fun K hK=>?_) (fun K hK=>?_)
    ·skip
     go_wp2_with fail
     refine (CE.out bj _ T.bel).mono ?_;rintro e W8 ⟨rfl,b1⟩;replace T:=T.below b1;clear b1;rw [HY.out];go_wp2_with fail
     refine consC (i:=9) (by kernel_rfl) (by kernel_rfl) ⟨T.bx.cell 1 _ rfl,T.bx.cell 2 _ rfl⟩ rfl (fun K hK=>?_);go_wp2_with fail
     replace T:=T.alloc6;generalize World.alloc _ _=W9 at T ⊢;have g5:=(T.x5 _ rfl).1;have N:=T.put (x0,x1,x2,x3);have p0:=g5.cell 0 _ rfl;have q0:=g5.frozen 0;have p1:=g5.cell 1 _ rfl;have q1:=g5.frozen 1;have p2:=g5.cell 2 _ rfl;have q2:=g5.frozen 2;have p3:=g5.cell 3 _ rfl;have q3:=g5.frozen 3;have HN:=Lib.hid N;clear N g5;refine consC (i:=10) (by kernel_rfl) (by kernel_rfl) ⟨T.bx.cell 1 _ rfl,T.bx.cell 2 _ rfl⟩ rfl (fun K hK=>?_);have HT:=Lib.hid T;clear T;go_wp2_with fail
     have N:=HN.out;clear p0 p1 p2 p3 q0 q1 q2 q3 HN HT;change OneS _ (World.setCell _ _ _) _ _ _ _ _ at N;generalize World.setCell _ _ _=WN at N ⊢;have g6:=N.x6;have E:=N.put (y0,y1,y2,y3);have p0:=g6.cell 0 _ rfl;have q0:=g6.frozen 0;have p1:=g6.cell 1 _ rfl;have q1:=g6.frozen 1;have p2:=g6.cell 2 _ rfl;have q2:=g6.frozen 2;have p3:=g6.cell 3 _ rfl;have q3:=g6.frozen 3;have HE:=Lib.hid E;clear E;refine lastC (by kernel_rfl) (by kernel_rfl) ⟨N.bx.cell 1 _ rfl,N.bx.cell 2 _ rfl⟩ (of_decide_eq_true (by kernel_rfl)) ?_;refine any_seqI [11] [_] _ _ _ rfl (by kernel_rfl) ?_;clear N g6;go_wp2_with fail
     go_meet
     exact ⟨_,_,rfl,rfl,HE.out⟩
    ·skip
     go_wp2_with fail
     replace T:=T.alloc6;generalize World.alloc _ _=W10 at T ⊢;refine consC (i:=7) (by kernel_rfl) (by kernel_rfl) ⟨T.bx.cell 1 _ rfl,T.bx.cell 2 _ rfl⟩ rfl (fun K hK=>?_);go_wp2_with fail
     refine (CE.out bj _ T.bel).mono ?_;rintro e W11 ⟨rfl,b1⟩;replace T:=T.below b1;clear b1;rw [HY.out];go_wp2_with fail
     have g5:=(T.x5 _ rfl).1;have N:=T.put (x0,x1,x2,x3);have p0:=g5.cell 0 _ rfl;have q0:=g5.frozen 0;have p1:=g5.cell 1 _ rfl;have q1:=g5.frozen 1;have p2:=g5.cell 2 _ rfl;have q2:=g5.frozen 2;have p3:=g5.cell 3 _ rfl;have q3:=g5.frozen 3;have HN:=Lib.hid N;clear N g5;refine consC (i:=10) (by kernel_rfl) (by kernel_rfl) ⟨T.bx.cell 1 _ rfl,T.bx.cell 2 _ rfl⟩ rfl (fun K hK=>?_);have HT:=Lib.hid T;clear T;go_wp2_with fail
     have N:=HN.out;clear p0 p1 p2 p3 q0 q1 q2 q3 HN HT;change OneS _ (World.setCell _ _ _) _ _ _ _ _ at N;generalize World.setCell _ _ _=WN at N ⊢;have g6:=N.x6;have E:=N.put (y0,y1,y2,y3);have p0:=g6.cell 0 _ rfl;have q0:=g6.frozen 0;have p1:=g6.cell 1 _ rfl;have q1:=g6.frozen 1;have p2:=g6.cell 2 _ rfl;have q2:=g6.frozen 2;have p3:=g6.cell 3 _ rfl;have q3:=g6.frozen 3;have HE:=Lib.hid E;clear E;refine lastC (by kernel_rfl) (by kernel_rfl) ⟨N.bx.cell 1 _ rfl,N.bx.cell 2 _ rfl⟩ (of_decide_eq_true (by kernel_rfl)) ?_;refine any_seqI [11] [_] _ _ _ rfl (by kernel_rfl) ?_;clear N g6;go_wp2_with fail
     go_meet
     exact ⟨_,_,rfl,rfl,HE.out⟩
   ·skip
    go_wp2_with fail
    replace T:=T.alloc6;generalize World.alloc _ _=W12 at T ⊢;refine fork2 (i:=7) (j:=8) (by kernel_rfl) (by kernel_rfl) ⟨T.bx.cell 1 _ rfl,T.bx.cell 2 _ rfl⟩ rfl rfl (fun K hK=>?_) (fun K hK=>?_)
    ·skip
     go_wp2_with fail
     refine (CE.out bj _ T.bel).mono ?_;rintro e W13 ⟨rfl,b1⟩;replace T:=T.below b1;clear b1;rw [HY.out];go_wp2_with fail
     refine consC (i:=8) (by kernel_rfl) (by kernel_rfl) ⟨T.bx.cell 1 _ rfl,T.bx.cell 2 _ rfl⟩ rfl (fun K hK=>?_);go_wp2_with fail
     replace T:=T.alloc5;generalize World.alloc _ _=W14 at T ⊢;have g5:=(T.x5 _ rfl).1;have N:=T.put (x0,x1,x2,x3);have p0:=g5.cell 0 _ rfl;have q0:=g5.frozen 0;have p1:=g5.cell 1 _ rfl;have q1:=g5.frozen 1;have p2:=g5.cell 2 _ rfl;have q2:=g5.frozen 2;have p3:=g5.cell 3 _ rfl;have q3:=g5.frozen 3;have HN:=Lib.hid N;clear N g5;refine consC (i:=10) (by kernel_rfl) (by kernel_rfl) ⟨T.bx.cell 1 _ rfl,T.bx.cell 2 _ rfl⟩ rfl (fun K hK=>?_);have HT:=Lib.hid T;clear T;go_wp2_with fail
     have N:=HN.out;clear p0 p1 p2 p3 q0 q1 q2 q3 HN HT;change OneS _ (World.setCell _ _ _) _ _ _ _ _ at N;generalize World.setCell _ _ _=WN at N ⊢;have g6:=N.x6;have E:=N.put (y0,y1,y2,y3);have p0:=g6.cell 0 _ rfl;have q0:=g6.frozen 0;have p1:=g6.cell 1 _ rfl;have q1:=g6.frozen 1;have p2:=g6.cell 2 _ rfl;have q2:=g6.frozen 2;have p3:=g6.cell 3 _ rfl;have q3:=g6.frozen 3;have HE:=Lib.hid E;clear E;refine lastC (by kernel_rfl) (by kernel_rfl) ⟨N.bx.cell 1 _ rfl,N.bx.cell 2 _ rfl⟩ (of_decide_eq_true (by kernel_rfl)) ?_;refine any_seqI [11] [_] _ _ _ rfl (by kernel_rfl) ?_;clear N g6;go_wp2_with fail
     go_meet
     exact ⟨_,_,rfl,rfl,HE.out⟩
    ·skip
     go_wp2_with fail
     replace T:=T.alloc5;generalize World.alloc _ _=W15 at T ⊢;refine consC (i:=7) (by kernel_rfl) (by kernel_rfl) ⟨T.bx.cell 1 _ rfl,T.bx.cell 2 _ rfl⟩ rfl (fun K hK=>?_);go_wp2_with fail
     refine (CE.out bj _ T.bel).mono ?_;rintro e W16 ⟨rfl,b1⟩;replace T:=T.below b1;clear b1;rw [HY.out];go_wp2_with fail
     have g5:=(T.x5 _ rfl).1;have N:=T.put (x0,x1,x2,x3);have p0:=g5.cell 0 _ rfl;have q0:=g5.frozen 0;have p1:=g5.cell 1 _ rfl;have q1:=g5.frozen 1;have p2:=g5.cell 2 _ rfl;have q2:=g5.frozen 2;have p3:=g5.cell 3 _ rfl;have q3:=g5.frozen 3;have HN:=Lib.hid N;clear N g5;refine consC (i:=10) (by kernel_rfl) (by kernel_rfl) ⟨T.bx.cell 1 _ rfl,T.bx.cell 2 _ rfl⟩ rfl (fun K hK=>?_);have HT:=Lib.hid T;clear T;go_wp2_with fail
     have N:=HN.out;clear p0 p1 p2 p3 q0 q1 q2 q3 HN HT;change OneS _ (World.setCell _ _ _) _ _ _ _ _ at N;generalize World.setCell _ _ _=WN at N ⊢;have g6:=N.x6;have E:=N.put (y0,y1,y2,y3);have p0:=g6.cell 0 _ rfl;have q0:=g6.frozen 0;have p1:=g6.cell 1 _ rfl;have q1:=g6.frozen 1;have p2:=g6.cell 2 _ rfl;have q2:=g6.frozen 2;have p3:=g6.cell 3 _ rfl;have q3:=g6.frozen 3;have HE:=Lib.hid E;clear E;refine lastC (by kernel_rfl) (by kernel_rfl) ⟨N.bx.cell 1 _ rfl,N.bx.cell 2 _ rfl⟩ (of_decide_eq_true (by kernel_rfl)) ?_;refine any_seqI [11] [_] _ _ _ rfl (by kernel_rfl) ?_;clear N g6;go_wp2_with fail
     go_meet
     exact ⟨_,_,rfl,rfl,HE.out⟩
  ·skip
   go_wp2_with fail
   replace T:=T.alloc5;generalize World.alloc _ _=W17 at T ⊢;refine fork2 (i:=3) (j:=9) (by kernel_rfl) (by kernel_rfl) ⟨T.bx.cell 1 _ rfl,T.bx.cell 2 _ rfl⟩ rfl rfl (fun K hK=>?_) (fun K hK=>?_)
   ·skip
    go_wp2_with fail
    refine (CE.out bi _ T.bel).mono ?_;rintro e W18 ⟨rfl,b1⟩;replace T:=T.below b1;clear b1;rw [HX.out];go_wp2_with fail
    refine fork2 (i:=7) (j:=9) (by kernel_rfl) (by kernel_rfl) ⟨T.bx.cell 1 _ rfl,T.bx.cell 2 _ rfl⟩ rfl rfl (fun K hK=>?_) (fun K hK=>?_)
    ·skip
     go_wp2_with fail
     refine (CE.out bj _ T.bel).mono ?_;rintro e W19 ⟨rfl,b1⟩;replace T:=T.below b1;clear b1;rw [HY.out];go_wp2_with fail
     refine consC (i:=9) (by kernel_rfl) (by kernel_rfl) ⟨T.bx.cell 1 _ rfl,T.bx.cell 2 _ rfl⟩ rfl (fun K hK=>?_);go_wp2_with fail
     replace T:=T.alloc6;generalize World.alloc _ _=W20 at T ⊢;have g5:=(T.x5 _ rfl).1;have N:=T.put (x0,x1,x2,x3);have p0:=g5.cell 0 _ rfl;have q0:=g5.frozen 0;have p1:=g5.cell 1 _ rfl;have q1:=g5.frozen 1;have p2:=g5.cell 2 _ rfl;have q2:=g5.frozen 2;have p3:=g5.cell 3 _ rfl;have q3:=g5.frozen 3;have HN:=Lib.hid N;clear N g5;refine consC (i:=10) (by kernel_rfl) (by kernel_rfl) ⟨T.bx.cell 1 _ rfl,T.bx.cell 2 _ rfl⟩ rfl (fun K hK=>?_);have HT:=Lib.hid T;clear T;go_wp2_with fail
     have N:=HN.out;clear p0 p1 p2 p3 q0 q1 q2 q3 HN HT;change OneS _ (World.setCell _ _ _) _ _ _ _ _ at N;generalize World.setCell _ _ _=WN at N ⊢;have g6:=N.x6;have E:=N.put (y0,y1,y2,y3);have p0:=g6.cell 0 _ rfl;have q0:=g6.frozen 0;have p1:=g6.cell 1 _ rfl;have q1:=g6.frozen 1;have p2:=g6.cell 2 _ rfl;have q2:=g6.frozen 2;have p3:=g6.cell 3 _ rfl;have q3:=g6.frozen 3;have HE:=Lib.hid E;clear E;refine lastC (by kernel_rfl) (by kernel_rfl) ⟨N.bx.cell 1 _ rfl,N.bx.cell 2 _ rfl⟩ (of_decide_eq_true (by kernel_rfl)) ?_;refine any_seqI [11] [_] _ _ _ rfl (by kernel_rfl) ?_;clear N g6;go_wp2_with fail
     go_meet
     exact ⟨_,_,rfl,rfl,HE.out⟩
    ·skip
     go_wp2_with fail
     replace T:=T.alloc6;generalize World.alloc _ _=W21 at T ⊢;refine consC (i:=7) (by kernel_rfl) (by kernel_rfl) ⟨T.bx.cell 1 _ rfl,T.bx.cell 2 _ rfl⟩ rfl (fun K hK=>?_);go_wp2_with fail
     refine (CE.out bj _ T.bel).mono ?_;rintro e W22 ⟨rfl,b1⟩;replace T:=T.below b1;clear b1;rw [HY.out];go_wp2_with fail
     have g5:=(T.x5 _ rfl).1;have N:=T.put (x0,x1,x2,x3);have p0:=g5.cell 0 _ rfl;have q0:=g5.frozen 0;have p1:=g5.cell 1 _ rfl;have q1:=g5.frozen 1;have p2:=g5.cell 2 _ rfl;have q2:=g5.frozen 2;have p3:=g5.cell 3 _ rfl;have q3:=g5.frozen 3;have HN:=Lib.hid N;clear N g5;refine consC (i:=10) (by kernel_rfl) (by kernel_rfl) ⟨T.bx.cell 1 _ rfl,T.bx.cell 2 _ rfl⟩ rfl (fun K hK=>?_);have HT:=Lib.hid T;clear T;go_wp2_with fail
     have N:=HN.out;clear p0 p1 p2 p3 q0 q1 q2 q3 HN HT;change OneS _ (World.setCell _ _ _) _ _ _ _ _ at N;generalize World.setCell _ _ _=WN at N ⊢;have g6:=N.x6;have E:=N.put (y0,y1,y2,y3);have p0:=g6.cell 0 _ rfl;have q0:=g6.frozen 0;have p1:=g6.cell 1 _ rfl;have q1:=g6.frozen 1;have p2:=g6.cell 2 _ rfl;have q2:=g6.frozen 2;have p3:=g6.cell 3 _ rfl;have q3:=g6.frozen 3;have HE:=Lib.hid E;clear E;refine lastC (by kernel_rfl) (by kernel_rfl) ⟨N.bx.cell 1 _ rfl,N.bx.cell 2 _ rfl⟩ (of_decide_eq_true (by kernel_rfl)) ?_;refine any_seqI [11] [_] _ _ _ rfl (by kernel_rfl) ?_;clear N g6;go_wp2_with fail
     go_meet
     exact ⟨_,_,rfl,rfl,HE.out⟩
   ·skip
    go_wp2_with fail
    replace T:=T.alloc6;generalize World.alloc _ _=W23 at T ⊢;refine consC (i:=3) (by kernel_rfl) (by kernel_rfl) ⟨T.bx.cell 1 _ rfl,T.bx.cell 2 _ rfl⟩ rfl (fun K hK=>?_);go_wp2_with fail
    refine (CE.out bi _ T.bel).mono ?_;rintro e W24 ⟨rfl,b1⟩;replace T:=T.below b1;clear b1;rw [HX.out];go_wp2_with fail
    refine consC (i:=7) (by kernel_rfl) (by kernel_rfl) ⟨T.bx.cell 1 _ rfl,T.bx.cell 2 _ rfl⟩ rfl (fun K hK=>?_);go_wp2_with fail
    refine (CE.out bj _ T.bel).mono ?_;rintro e W25 ⟨rfl,b1⟩;replace T:=T.below b1;clear b1;rw [HY.out];go_wp2_with fail
    have g5:=(T.x5 _ rfl).1;have N:=T.put (x0,x1,x2,x3);have p0:=g5.cell 0 _ rfl;have q0:=g5.frozen 0;have p1:=g5.cell 1 _ rfl;have q1:=g5.frozen 1;have p2:=g5.cell 2 _ rfl;have q2:=g5.frozen 2;have p3:=g5.cell 3 _ rfl;have q3:=g5.frozen 3;have HN:=Lib.hid N;clear N g5;refine consC (i:=10) (by kernel_rfl) (by kernel_rfl) ⟨T.bx.cell 1 _ rfl,T.bx.cell 2 _ rfl⟩ rfl (fun K hK=>?_);have HT:=Lib.hid T;clear T;go_wp2_with fail
    have N:=HN.out;clear p0 p1 p2 p3 q0 q1 q2 q3 HN HT;change OneS _ (World.setCell _ _ _) _ _ _ _ _ at N;generalize World.setCell _ _ _=WN at N ⊢;have g6:=N.x6;have E:=N.put (y0,y1,y2,y3);have p0:=g6.cell 0 _ rfl;have q0:=g6.frozen 0;have p1:=g6.cell 1 _ rfl;have q1:=g6.frozen 1;have p2:=g6.cell 2 _ rfl;have q2:=g6.frozen 2;have p3:=g6.cell 3 _ rfl;have q3:=g6.frozen 3;have HE:=Lib.hid E;clear E;refine lastC (by kernel_rfl) (by kernel_rfl) ⟨N.bx.cell 1 _ rfl,N.bx.cell 2 _ rfl⟩ (of_decide_eq_true (by kernel_rfl)) ?_;refine any_seqI [11] [_] _ _ _ rfl (by kernel_rfl) ?_;clear N g6;go_wp2_with fail
    go_meet
    exact ⟨_,_,rfl,rfl,HE.out⟩
  ·skip
   go_wp2_with fail
   replace T:=T.alloc6;generalize World.alloc _ _=W26 at T ⊢;refine fork2 (i:=3) (j:=8) (by kernel_rfl) (by kernel_rfl) ⟨T.bx.cell 1 _ rfl,T.bx.cell 2 _ rfl⟩ rfl rfl (fun K hK=>?_) (fun K hK=>?_)
   ·skip
    go_wp2_with fail
    refine (CE.out bi _ T.bel).mono ?_;rintro e W27 ⟨rfl,b1⟩;replace T:=T.below b1;clear b1;rw [HX.out];go_wp2_with fail
    refine fork2 (i:=7) (j:=8) (by kernel_rfl) (by kernel_rfl) ⟨T.bx.cell 1 _ rfl,T.bx.cell 2 _ rfl⟩ rfl rfl (fun K hK=>?_) (fun K hK=>?_)
    ·skip
     go_wp2_with fail
     refine (CE.out bj _ T.bel).mono ?_;rintro e W28 ⟨rfl,b1⟩;replace T:=T.below b1;clear b1;rw [HY.out];go_wp2_with fail
     refine consC (i:=8) (by kernel_rfl) (by kernel_rfl) ⟨T.bx.cell 1 _ rfl,T.bx.cell 2 _ rfl⟩ rfl (fun K hK=>?_);go_wp2_with fail
     replace T:=T.alloc5;generalize World.alloc _ _=W29 at T ⊢;have g5:=(T.x5 _ rfl).1;have N:=T.put (x0,x1,x2,x3);have p0:=g5.cell 0 _ rfl;have q0:=g5.frozen 0;have p1:=g5.cell 1 _ rfl;have q1:=g5.frozen 1;have p2:=g5.cell 2 _ rfl;have q2:=g5.frozen 2;have p3:=g5.cell 3 _ rfl;have q3:=g5.frozen 3;have HN:=Lib.hid N;clear N g5;refine consC (i:=10) (by kernel_rfl) (by kernel_rfl) ⟨T.bx.cell 1 _ rfl,T.bx.cell 2 _ rfl⟩ rfl (fun K hK=>?_);have HT:=Lib.hid T;clear T;go_wp2_with fail
     have N:=HN.out;clear p0 p1 p2 p3 q0 q1 q2 q3 HN HT;change OneS _ (World.setCell _ _ _) _ _ _ _ _ at N;generalize World.setCell _ _ _=WN at N ⊢;have g6:=N.x6;have E:=N.put (y0,y1,y2,y3);have p0:=g6.cell 0 _ rfl;have q0:=g6.frozen 0;have p1:=g6.cell 1 _ rfl;have q1:=g6.frozen 1;have p2:=g6.cell 2 _ rfl;have q2:=g6.frozen 2;have p3:=g6.cell 3 _ rfl;have q3:=g6.frozen 3;have HE:=Lib.hid E;clear E;refine lastC (by kernel_rfl) (by kernel_rfl) ⟨N.bx.cell 1 _ rfl,N.bx.cell 2 _ rfl⟩ (of_decide_eq_true (by kernel_rfl)) ?_;refine any_seqI [11] [_] _ _ _ rfl (by kernel_rfl) ?_;clear N g6;go_wp2_with fail
     go_meet
     exact ⟨_,_,rfl,rfl,HE.out⟩
    ·skip
     go_wp2_with fail
     replace T:=T.alloc5;generalize World.alloc _ _=W30 at T ⊢;refine consC (i:=7) (by kernel_rfl) (by kernel_rfl) ⟨T.bx.cell 1 _ rfl,T.bx.cell 2 _ rfl⟩ rfl (fun K hK=>?_);go_wp2_with fail
     refine (CE.out bj _ T.bel).mono ?_;rintro e W31 ⟨rfl,b1⟩;replace T:=T.below b1;clear b1;rw [HY.out];go_wp2_with fail
     have g5:=(T.x5 _ rfl).1;have N:=T.put (x0,x1,x2,x3);have p0:=g5.cell 0 _ rfl;have q0:=g5.frozen 0;have p1:=g5.cell 1 _ rfl;have q1:=g5.frozen 1;have p2:=g5.cell 2 _ rfl;have q2:=g5.frozen 2;have p3:=g5.cell 3 _ rfl;have q3:=g5.frozen 3;have HN:=Lib.hid N;clear N g5;refine consC (i:=10) (by kernel_rfl) (by kernel_rfl) ⟨T.bx.cell 1 _ rfl,T.bx.cell 2 _ rfl⟩ rfl (fun K hK=>?_);have HT:=Lib.hid T;clear T;go_wp2_with fail
     have N:=HN.out;clear p0 p1 p2 p3 q0 q1 q2 q3 HN HT;change OneS _ (World.setCell _ _ _) _ _ _ _ _ at N;generalize World.setCell _ _ _=WN at N ⊢;have g6:=N.x6;have E:=N.put (y0,y1,y2,y3);have p0:=g6.cell 0 _ rfl;have q0:=g6.frozen 0;have p1:=g6.cell 1 _ rfl;have q1:=g6.frozen 1;have p2:=g6.cell 2 _ rfl;have q2:=g6.frozen 2;have p3:=g6.cell 3 _ rfl;have q3:=g6.frozen 3;have HE:=Lib.hid E;clear E;refine lastC (by kernel_rfl) (by kernel_rfl) ⟨N.bx.cell 1 _ rfl,N.bx.cell 2 _ rfl⟩ (of_decide_eq_true (by kernel_rfl)) ?_;refine any_seqI [11] [_] _ _ _ rfl (by kernel_rfl) ?_;clear N g6;go_wp2_with fail
     go_meet
     exact ⟨_,_,rfl,rfl,HE.out⟩
   ·skip
    go_wp2_with fail
    replace T:=T.alloc5;generalize World.alloc _ _=W32 at T ⊢;refine consC (i:=3) (by kernel_rfl) (by kernel_rfl) ⟨T.bx.cell 1 _ rfl,T.bx.cell 2 _ rfl⟩ rfl (fun K hK=>?_);go_wp2_with fail
    refine (CE.out bi _ T.bel).mono ?_;rintro e W33 ⟨rfl,b1⟩;replace T:=T.below b1;clear b1;rw [HX.out];go_wp2_with fail
    refine consC (i:=7) (by kernel_rfl) (by kernel_rfl) ⟨T.bx.cell 1 _ rfl,T.bx.cell 2 _ rfl⟩ rfl (fun K hK=>?_);go_wp2_with fail
    refine (CE.out bj _ T.bel).mono ?_;rintro e W34 ⟨rfl,b1⟩;replace T:=T.below b1;clear b1;rw [HY.out];go_wp2_with fail
    have g5:=(T.x5 _ rfl).1;have N:=T.put (x0,x1,x2,x3);have p0:=g5.cell 0 _ rfl;have q0:=g5.frozen 0;have p1:=g5.cell 1 _ rfl;have q1:=g5.frozen 1;have p2:=g5.cell 2 _ rfl;have q2:=g5.frozen 2;have p3:=g5.cell 3 _ rfl;have q3:=g5.frozen 3;have HN:=Lib.hid N;clear N g5;refine consC (i:=10) (by kernel_rfl) (by kernel_rfl) ⟨T.bx.cell 1 _ rfl,T.bx.cell 2 _ rfl⟩ rfl (fun K hK=>?_);have HT:=Lib.hid T;clear T;go_wp2_with fail
    have N:=HN.out;clear p0 p1 p2 p3 q0 q1 q2 q3 HN HT;change OneS _ (World.setCell _ _ _) _ _ _ _ _ at N;generalize World.setCell _ _ _=WN at N ⊢;have g6:=N.x6;have E:=N.put (y0,y1,y2,y3);have p0:=g6.cell 0 _ rfl;have q0:=g6.frozen 0;have p1:=g6.cell 1 _ rfl;have q1:=g6.frozen 1;have p2:=g6.cell 2 _ rfl;have q2:=g6.frozen 2;have p3:=g6.cell 3 _ rfl;have q3:=g6.frozen 3;have HE:=Lib.hid E;clear E;refine lastC (by kernel_rfl) (by kernel_rfl) ⟨N.bx.cell 1 _ rfl,N.bx.cell 2 _ rfl⟩ (of_decide_eq_true (by kernel_rfl)) ?_;refine any_seqI [11] [_] _ _ _ rfl (by kernel_rfl) ?_;clear N g6;go_wp2_with fail
    go_meet
    exact ⟨_,_,rfl,rfl,HE.out⟩
 obtain ⟨bx,cy,rfl,rfl,E⟩:=hcut;clear B0 X0;obtain ⟨z,hz⟩:∃ z,cmP l x1=z:=⟨_,rfl⟩;have HZ:=HCm.out z hz;have CZ:=CC.out x1;rw [hz] at CZ;have HCZ:=Lib.hid CZ;clear hz CZ HCm CC;obtain ⟨r1,g1⟩:∃ r,decide (bi < 0)=r:=⟨_,rfl⟩;obtain ⟨r2,g2⟩:∃ r,(x0 != 2)=r:=⟨_,rfl⟩;obtain ⟨r3,g3⟩:∃ r,decide (z≤bi)=r:=⟨_,rfl⟩;obtain ⟨r4,g4⟩:∃ r,(y0 != 3)=r:=⟨_,rfl⟩;obtain ⟨r5,g5⟩:∃ r,(y2 != x2)=r:=⟨_,rfl⟩;have g2b:(x0==2)=!r2:=by rw [← g2];unfold bne;rw [Bool.not_not]
 have g4b:(y0==3)=!r4:=by rw [← g4];unfold bne;rw [Bool.not_not]
 have g5b:(y2==x2)=!r5:=by rw [← g5];unfold bne;rw [Bool.not_not]
 have HV:Hid ((decide (0≤bi)&&decide (x0=2)&&decide (bi < comP l x1)&&decide (y0=3)&&decide (y2=x2))=(!r1&&!r2&&!r3&&!r4&&!r5)):=by
  show _=_;have d2:decide (x0=2)=!r2:=g2b;have d4:decide (y0=3)=!r4:=g4b;have d5:decide (y2=x2)=!r5:=(dec_beq15 y2 x2).trans g5b;have d1:decide (0≤bi)=!r1:=by rw [← g1,← decide_not];exact decide_eq_decide.2 (by omega)
  rw [d1,d2,d4,d5];rcases HZ with h | h
  ·rw [h,g1,g3];cases r1<;>cases r2<;>cases r3<;>cases r4<;>cases r5<;>rfl
  ·rw [decide_eq_true h] at g1;subst g1;rfl
 obtain ⟨kb,hkb⟩:∃ r,kindB l (bk,bi,bj) (x0,x1,x2,x3) (y0,y1,y2,y3)=r:=⟨_,rfl⟩;have HKB:=Lib.hid hkb;have HRR:Hid (rr=((!r1&&!r2&&!r3&&!r4&&!r5)&&kb)):=by show _=_;rw [← HR0.out,HV.out,hkb]
 clear HR0 HV HZ hkb g2b g4b;have HE:=Lib.hid E;have e0:=E.bx.cell 0 _ rfl;have e1:=E.bx.cell 1 _ rfl;have e2:=E.bx.cell 2 _ rfl;have xx0:=E.x5.cell 0 _ rfl;have xx1:=E.x5.cell 1 _ rfl;have xx2:=E.x5.cell 2 _ rfl;have xx3:=E.x5.cell 3 _ rfl;have yy0:=E.x6.cell 0 _ rfl;have yy1:=E.x6.cell 1 _ rfl;have yy2:=E.x6.cell 2 _ rfl;have yy3:=E.x6.cell 3 _ rfl;have Bc:=E.bel;clear E
 have H:r1=true∨(r1=false∧r2=true)∨(r1=false∧r2=false∧r3=true)∨(r1=false∧r2=false∧r3=false∧r4=true)∨(r1=false∧r2=false∧r3=false∧r4=false∧r5=true)∨(r1=false∧r2=false∧r3=false∧r4=false∧r5=false):=by
  cases r1<;>cases r2<;>cases r3<;>cases r4<;>cases r5<;>simp
 rcases H with rfl | ⟨rfl,rfl⟩ | ⟨rfl,rfl,rfl⟩ | ⟨rfl,rfl,rfl,rfl⟩ | ⟨rfl,rfl,rfl,rfl,rfl⟩ | ⟨rfl,rfl,rfl,rfl,rfl⟩
 rotate_right
 ·have HR2:Hid (rr=kb):=by show _=_;rw [HRR.out];rfl
  clear HRR;simp only [Bool.not_false] at g5b;go_wp2_with fail
  refine region_far (by kernel_rfl) (by kernel_rfl) ?_
  repeat (first | go_big_quiet_skip | (go_big_quiet_want;go_big_quiet_op;first | go_big_quiet_on | go_big_quiet_call (first | (go_at_call 40;exact calls_far (HCZ.out _ (bel_trans Bc (farW_bel _ _)))))))
  refine wpQuiet_nil ?_;rintro w' ⟨U,rfl⟩;have E1:=HE.out.below (farW_bel wc U);generalize farW wc U=wB at E1 ⊢;clear e0 e1 e2 xx0 xx1 xx2 xx3 yy0 yy1 yy2 yy3 Bc HCZ;have e0:=E1.bx.cell 0 _ rfl;have e1:=E1.bx.cell 1 _ rfl;have e2:=E1.bx.cell 2 _ rfl;have xx0:=E1.x5.cell 0 _ rfl;have xx1:=E1.x5.cell 1 _ rfl;have xx2:=E1.x5.cell 2 _ rfl;have xx3:=E1.x5.cell 3 _ rfl;have yy0:=E1.x6.cell 0 _ rfl;have yy1:=E1.x6.cell 1 _ rfl;have yy2:=E1.x6.cell 2 _ rfl;have yy3:=E1.x6.cell 3 _ rfl;have Bd:=E1.bel;clear E1 HE g1 g2 g3 g4 g5 g5b;obtain ⟨ow,how⟩:∃ r,(y1==x1)=r:=⟨_,rfl⟩;obtain ⟨se,hse⟩:∃ r,(y3==x3)=r:=⟨_,rfl⟩
  have HK:Hid (kb=(if bk=1 then !ow&&se&&decide ((endP l y1).2.1.1=5) else if bk=2 then !ow&&!se&&overB l (x0,x1,x2,x3) y1 bj else if bk=3 then ow&&!se&&decide (bj < bi)&&lastB l (x0,x1,x2,x3) bi bj else if bk=4 then ow&&se&&decide (bi < bj) else false)):=by
   show _=_;rw [← HKB.out,← hse,← dec_beq15,← how];rfl
  clear HKB;go_wp2_with fail
  refine region_far (by kernel_rfl) (by kernel_rfl) ?_
  repeat (first | go_big_quiet_skip | (go_big_quiet_want;go_big_quiet_op;go_big_quiet_on))
  refine wpQuiet_nil ?_;rintro w' ⟨U2,rfl⟩;have Be:=bel_trans Bd (farW_bel wB U2);have keep:=fun p vv (h:wB.cell? p=some vv)=>(farW_cell wB U2 p (by rw [h];rfl)).trans h
  have e0:=keep _ _ e0;have e1:=keep _ _ e1;have e2:=keep _ _ e2;have xx0:=keep _ _ xx0;have xx1:=keep _ _ xx1;have xx2:=keep _ _ xx2;have xx3:=keep _ _ xx3;have yy1:=keep _ _ yy1;clear keep;generalize farW wB U2=wE at Be e0 e1 e2 xx0 xx1 xx2 xx3 yy1 ⊢;clear yy0 yy2 yy3 Bd how hse
  by_cases d1:bk=1
  ·have n1:(bk==1)=true:=by rw [d1];rfl
   have HK1:Hid (kb=(!ow&&se&&decide ((endP l y1).2.1.1=5))):=HK.out.trans (if_pos d1);clear HK d1;have H:ow=true∨(ow=false∧se=false)∨(ow=false∧se=true):=by cases ow<;>cases se<;>simp
   rcases H with rfl | ⟨rfl,rfl⟩ | ⟨rfl,rfl⟩
   ·go_wp2_with fail
    go_ret
    exact ⟨by rw [HR2.out,HK1.out];rfl,Be⟩
   ·go_wp2_with fail
    go_ret
    exact ⟨by rw [HR2.out,HK1.out];rfl,Be⟩
   ·have DE:=CD.out y1 _ Be
    obtain ⟨P,hPe⟩:∃ P,endP l y1=P:=⟨_,rfl⟩;rw [hPe] at DE;have HPe:=Lib.hid hPe;clear hPe;obtain ⟨p0,⟨u0,u1,u2,u3⟩,q⟩:=P;have HK2:Hid (kb=(u0==5)):=by show _=_;rw [HK1.out,HPe.out];rfl
    obtain ⟨re,hre⟩:∃ r,(u0==5)=r:=⟨_,rfl⟩;have HK3:Hid (kb=re):=HK2.out.trans hre;clear HK1 HK2;go_wp2_with fail
    refine DE.mono ?_;rintro e w9 ⟨⟨a9,n9,c9,rfl⟩,b9⟩
    dsimp only [pfA]
    go_wp2_with fail
    go_ret
    exact ⟨by rw [HR2.out,HK3.out];rfl,bel_trans Be b9⟩
  ·have n1:(bk==1)=false:=beq_eq_false_iff_ne.2 d1
   replace HK:Hid (kb=(if bk=2 then !ow&&!se&&overB l (x0,x1,x2,x3) y1 bj else if bk=3 then ow&&!se&&decide (bj < bi)&&lastB l (x0,x1,x2,x3) bi bj else if bk=4 then ow&&se&&decide (bi < bj) else false)):=HK.out.trans (if_neg d1);clear d1
   by_cases d2:bk=2
   ·have n2:(bk==2)=true:=by rw [d2];rfl
    have HK1:Hid (kb=(!ow&&!se&&overB l (x0,x1,x2,x3) y1 bj)):=HK.out.trans (if_pos d2);clear HK d2;have H:ow=true∨(ow=false∧se=true)∨(ow=false∧se=false):=by cases ow<;>cases se<;>simp
    rcases H with rfl | ⟨rfl,rfl⟩ | ⟨rfl,rfl⟩
    ·go_wp2_with fail
     go_ret
     exact ⟨by rw [HR2.out,HK1.out];rfl,Be⟩
    ·go_wp2_with fail
     go_ret
     exact ⟨by rw [HR2.out,HK1.out];rfl,Be⟩
    ·have DE:=CO.out (x0,x1,x2,x3) y1 bj _ Be
     obtain ⟨re,hre⟩:∃ r,overB l (x0,x1,x2,x3) y1 bj=r:=⟨_,rfl⟩;rw [hre] at DE;have HK3:Hid (kb=re):=by show _=_;rw [HK1.out,hre];rfl
     clear HK1 hre;go_wp2_with fail
     refine DE.mono ?_;rintro e w9 ⟨rfl,b9⟩;go_wp2_with fail
     go_ret
     exact ⟨by rw [HR2.out,HK3.out];rfl,bel_trans Be b9⟩
   ·have n2:(bk==2)=false:=beq_eq_false_iff_ne.2 d2
    replace HK:Hid (kb=(if bk=3 then ow&&!se&&decide (bj < bi)&&lastB l (x0,x1,x2,x3) bi bj else if bk=4 then ow&&se&&decide (bi < bj) else false)):=HK.out.trans (if_neg d2);clear d2
    by_cases d3:bk=3
    ·have n3:(bk==3)=true:=by rw [d3];rfl
     obtain ⟨lt,hlt⟩:∃ r,decide (bj < bi)=r:=⟨_,rfl⟩;have HK1:Hid (kb=(ow&&!se&&lt&&lastB l (x0,x1,x2,x3) bi bj)):=by show _=_;rw [← hlt];exact HK.out.trans (if_pos d3)
     have H:ow=false∨(ow=true∧se=true)∨(ow=true∧se=false∧lt=false)∨(ow=true∧se=false∧lt=true):=by cases ow<;>cases se<;>cases lt<;>simp
     clear HK d3;rcases H with rfl | ⟨rfl,rfl⟩ | ⟨rfl,rfl,rfl⟩ | ⟨rfl,rfl,rfl⟩
     ·go_wp2_with fail
      go_ret
      exact ⟨by rw [HR2.out,HK1.out];rfl,Be⟩
     ·go_wp2_with fail
      go_ret
      exact ⟨by rw [HR2.out,HK1.out];rfl,Be⟩
     ·go_wp2_with fail
      go_ret
      exact ⟨by rw [HR2.out,HK1.out];rfl,Be⟩
     ·have DE:=CL.out (x0,x1,x2,x3) bk bi bj _ Be
      obtain ⟨re,hre⟩:∃ r,lastB l (x0,x1,x2,x3) bi bj=r:=⟨_,rfl⟩;rw [hre] at DE;have HK3:Hid (kb=re):=by show _=_;rw [HK1.out,hre];rfl
      clear HK1 hre;go_wp2_with fail
      refine DE.mono ?_;rintro e w9 ⟨rfl,b9⟩;go_wp2_with fail
      go_ret
      exact ⟨by rw [HR2.out,HK3.out];rfl,bel_trans Be b9⟩
    ·have n3:(bk==3)=false:=beq_eq_false_iff_ne.2 d3
     replace HK:Hid (kb=(if bk=4 then ow&&se&&decide (bi < bj) else false)):=HK.out.trans (if_neg d3);clear d3
     by_cases d4:bk=4
     ·have n4:(bk==4)=true:=by rw [d4];rfl
      obtain ⟨gt,hgt⟩:∃ r,decide (bj > bi)=r:=⟨_,rfl⟩;have HK1:Hid (kb=(ow&&se&&gt)):=by show _=_;rw [← hgt];exact HK.out.trans (if_pos d4)
      have H:ow=false∨(ow=true∧se=false)∨(ow=true∧se=true):=by cases ow<;>cases se<;>simp
      clear HK d4;rcases H with rfl | ⟨rfl,rfl⟩ | ⟨rfl,rfl⟩
      ·go_wp2_with fail
       go_ret
       exact ⟨by rw [HR2.out,HK1.out];rfl,Be⟩
      ·go_wp2_with fail
       go_ret
       exact ⟨by rw [HR2.out,HK1.out];rfl,Be⟩
      ·go_wp2_with fail
       go_ret
       exact ⟨by rw [HR2.out,HK1.out];rfl,Be⟩
     ·have n4:(bk==4)=false:=beq_eq_false_iff_ne.2 d4
      have HK1:Hid (kb=false):=HK.out.trans (if_neg d4);clear HK d4;go_wp2_with fail
      go_ret
      exact ⟨by rw [HR2.out,HK1.out];rfl,Be⟩
 all_goals
  (try simp only [Bool.not_true] at g5b)
  go_wp2_with fail
  refine region_far (by kernel_rfl) (by kernel_rfl) ?_
  repeat (first | go_big_quiet_skip | (go_big_quiet_want;go_big_quiet_op;first | go_big_quiet_on | go_big_quiet_call (first | (go_at_call 40;exact calls_far (HCZ.out _ (bel_trans Bc (farW_bel _ _)))))))
  refine wpQuiet_nil ?_;rintro w' ⟨U,rfl⟩;have B1:=bel_trans Bc (farW_bel wc U);generalize farW wc U=wB at B1 ⊢;go_wp2_with fail
  go_ret
  exact ⟨by rw [HRR.out];rfl,B1⟩
end Go.Proofs.YthamoeekiglphaaGreatDoor
