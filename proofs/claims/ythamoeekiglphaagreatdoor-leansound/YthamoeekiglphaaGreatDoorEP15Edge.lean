/-
  What lean.Edge answers.
-/
import Derived.Test.YthamoeekiglphaaGreatDoorEL0e
namespace Go.Proofs.YthamoeekiglphaaGreatDoor
set_option maxRecDepth 100000
open Go.RowKit
set_option linter.unusedVariables false
attribute [local go_sem] ba_size farW_cell
theorem edgeB_is (l:List Pf) (k F T i j:Int) (X Y:Ev) (h1:evP l i=X) (h2:evP l j=Y):edgeB l (k,F,T,i,j)=(!(F==T)&&(!(cmP l F==-1)&&(!(cmP l T==-1)&&((X.2.1==F)&&((Y.2.1==T)&&((X.2.2.1==Y.2.2.1)&&(ofK15 k X Y&&(if k=1 then !decide (cmP l F ≥ cmP l T) else if k=2 then (X.2.2.2==Y.2.2.2) else if k=3 then aheadP l X (cmP l T) else false)))))))):=by
 have e0:edgeB l (k,F,T,i,j)=(decide (F≠T)&&decide (0≤comP l F)&&decide (0≤comP l T)&&decide (X.2.1=F)&&decide (Y.2.1=T)&&decide (X.2.2.1=Y.2.2.1)&&kindE l (k,F,T,i,j) X Y):=by rw [← h1,← h2];rfl
 rw [e0,kindE_is,cmP_is l F,cmP_is l T];have d1:decide (F≠T)=!(F==T):=by by_cases h:F=T<;>simp [h]
 have d4:decide (X.2.1=F)=(X.2.1==F):=rfl;have d5:decide (Y.2.1=T)=(Y.2.1==T):=rfl;rw [d1,d4,d5,dec_beq15]
 by_cases c1:0≤comP l F
 ·rw [if_pos c1,decide_eq_true c1,show (comP l F==-1)=false from beq_eq_false_iff_ne.2 (by omega)]
  by_cases c2:0≤comP l T
  ·rw [if_pos c2,decide_eq_true c2,show (comP l T==-1)=false from beq_eq_false_iff_ne.2 (by omega)]
   have d7:decide (comP l F < comP l T)=!decide (comP l F ≥ comP l T):=by rw [← decide_not];exact decide_eq_decide.2 (by omega)
   simp only [Bool.and_true,Bool.not_false,Bool.true_and,Bool.and_assoc,d7]
  ·rw [decide_eq_false c2,if_neg c2];simp
 ·rw [decide_eq_false c1,if_neg c1];simp
set_option maxHeartbeats 16000000 in
theorem pedge15_any (l:List Pf) (v:Value) (w:World) (hP:IsPfs w v l) (ek ef et ei ej:Int) :
 Calls Tryz.prog 17 #[v,.agg #[.int .i64 ek,.int .i64 ef,.int .i64 et,.int .i64 ei,.int .i64 ej]] w fun e w'=>e=.returned (.bool (edgeB l (ek,ef,et,ei,ej)))∧Below w.heap.size w w':=by
 have CE0:=fun (i:Int) V (hV:Below w.heap.size w V)=>pevent15_any l v V (hP.below hV) i
 have CC0:=fun (t:Int) V (hV:Below w.heap.size w V)=>pcommit15_any l v V (hP.below hV) t
 have CA0:=fun (x:Ev) (t:Int) V (hV:Below w.heap.size w V)=>pahead15_any l v V (hP.below hV) x t
 obtain ⟨a,cap,rfl,k1,k2,k3⟩:=hP.len;obtain ⟨nn,hn⟩:∃ n,l.length=n:=⟨_,rfl⟩;rw [hn] at k1 k3 CE0 CC0 CA0 ⊢;have CE:=Lib.hid CE0;have CC:=Lib.hid CC0;have CA:=Lib.hid CA0;obtain ⟨⟨x0,x1,x2,x3⟩,hx⟩:∃ x,evP l ei=x:=⟨_,rfl⟩;obtain ⟨⟨y0,y1,y2,y3⟩,hy⟩:∃ x,evP l ej=x:=⟨_,rfl⟩;have HX:=Lib.hid hx;have HY:=Lib.hid hy;obtain ⟨zf,hzf⟩:∃ z,cmP l ef=z:=⟨_,rfl⟩;obtain ⟨zt,hzt⟩:∃ z,cmP l et=z:=⟨_,rfl⟩;have HZF:=Lib.hid hzf;have HZT:=Lib.hid hzt;obtain ⟨rr,hrr⟩:∃ r,edgeB l (ek,ef,et,ei,ej)=r:=⟨_,rfl⟩;obtain ⟨r1,g1⟩:∃ r,(ef==et)=r:=⟨_,rfl⟩;obtain ⟨r2,g2⟩:∃ r,(zf==-1)=r:=⟨_,rfl⟩;obtain ⟨r3,g3⟩:∃ r,(zt==-1)=r:=⟨_,rfl⟩;obtain ⟨r4,g4⟩:∃ r,(x1==ef)=r:=⟨_,rfl⟩;obtain ⟨r5,g5⟩:∃ r,(y1==et)=r:=⟨_,rfl⟩;obtain ⟨r6,g6⟩:∃ r,(x2==y2)=r:=⟨_,rfl⟩
 obtain ⟨r7,g7⟩:∃ r,ofK15 ek (x0,x1,x2,x3) (y0,y1,y2,y3)=r:=⟨_,rfl⟩
 have HR0:Hid (rr=(!r1&&(!r2&&(!r3&&(r4&&(r5&&(r6&&(r7&&(if ek=1 then !decide (zf ≥ zt) else if ek=2 then (x3==y3) else if ek=3 then aheadP l (x0,x1,x2,x3) zt else false)))))))) ):=by
  show _=_;rw [← hrr,edgeB_is l ek ef et ei ej _ _ hx hy,hzf,hzt,← g1,← g2,← g3,← g4,← g5,← g6,← g7]
 have HG7:=Lib.hid g7;have n4:(x1 != ef)=!r4:=by rw [← g4];rfl
 have n5:(y1 != et)=!r5:=by rw [← g5];rfl
 have n6:(x2 != y2)=!r6:=by rw [← g6];rfl
 rw [hrr];clear CE0 CC0 CA0 hn hP hx hy hrr hzf hzt g7;have X0:=SBox.new w 32 #[.int .i64 ek,.int .i64 ef,.int .i64 et,.int .i64 ei,.int .i64 ej];have B0:=(Below.refl w.heap.size w).alloc (Nat.le_refl _) (.cells #[.int .i64 ek,.int .i64 ef,.int .i64 et,.int .i64 ei,.int .i64 ej] 32);go_enter Tryz.func17,Tryz.ntmps17
 go_upto_region 1 with fail
 go_cut [5,6] from 9 to 16 (fun s5 s6 W=>∃ bx cy,s5=.pointer (some ⟨bx,0,none⟩)∧s6=.pointer (some ⟨cy,0,none⟩)∧TwoE w W 32 #[.int .i64 ek,.int .i64 ef,.int .i64 et,.int .i64 ei,.int .i64 ej] bx cy (x0,x1,x2,x3) (y0,y1,y2,y3))
 case first =>
  refine wp_region_any (by kernel_rfl) ?_;change wpAny _ _ _ _ _ _ _ (World.drew _);generalize hwd:World.drew _=wd;have T:TwoS w wd 32 #[.int .i64 ek,.int .i64 ef,.int .i64 et,.int .i64 ei,.int .i64 ej] none none:=by rw [← hwd];exact ⟨B0.drew,X0,fun b e=>(by cases e),fun b e=>(by cases e),fun b c e=>(by cases e)⟩
  clear hwd B0 X0;refine any_of_C (C:=fun V=>V.cell? ⟨w.heap.size,3,none⟩=some (.int .i64 ei)∧V.cell? ⟨w.heap.size,4,none⟩=some (.int .i64 ej)) 11 _ _ _ _ ?_;refine takeD 0 (.slice a nn cap) rfl (by kernel_rfl) (fun _ _ _ h=>h) (fun V hV=>by obtain ⟨r0,r1⟩:=hV;go_simp) ?_;refine takeD 1 (.pointer (some ⟨w.heap.size,3,none⟩)) rfl (by kernel_rfl) (fun _ _ _ h=>h) (fun V hV=>by obtain ⟨r0,r1⟩:=hV;go_simp) ?_;refine takeD 2 (.int .i64 ei) rfl (by kernel_rfl) (fun _ _ _ h=>h) (fun V hV=>by obtain ⟨r0,r1⟩:=hV;go_simp) ?_;refine takeD 4 (.slice a nn cap) rfl (by kernel_rfl) (fun _ _ _ h=>h) (fun V hV=>by obtain ⟨r0,r1⟩:=hV;go_simp) ?_;refine takeD 5 (.pointer (some ⟨w.heap.size,4,none⟩)) rfl (by kernel_rfl) (fun _ _ _ h=>h) (fun V hV=>by obtain ⟨r0,r1⟩:=hV;go_simp) ?_
  refine takeD 6 (.int .i64 ej) rfl (by kernel_rfl) (fun _ _ _ h=>h) (fun V hV=>by obtain ⟨r0,r1⟩:=hV;go_simp) ?_;refine fork3 (i:=3) (j:=8) (k:=9) (by kernel_rfl) (by kernel_rfl) ⟨T.bx.cell 3 _ rfl,T.bx.cell 4 _ rfl⟩ rfl rfl rfl (fun K hK=>?_) (fun K hK=>?_) (fun K hK=>?_)
  ·skip
   go_wp2_with fail
   refine (CE.out ei _ T.bel).mono ?_;rintro e W1 ⟨rfl,b1⟩;replace T:=T.below b1;clear b1;rw [HX.out];go_wp2_with fail
   refine fork3 (i:=7) (j:=8) (k:=9) (by kernel_rfl) (by kernel_rfl) ⟨T.bx.cell 3 _ rfl,T.bx.cell 4 _ rfl⟩ rfl rfl rfl (fun K hK=>?_) (fun K hK=>?_) (fun K hK=>?_)
   ·skip
    go_wp2_with fail
    refine (CE.out ej _ T.bel).mono ?_;rintro e W2 ⟨rfl,b1⟩;replace T:=T.below b1;clear b1;rw [HY.out];go_wp2_with fail
    refine fork2 (i:=8) (j:=9) (by kernel_rfl) (by kernel_rfl) ⟨T.bx.cell 3 _ rfl,T.bx.cell 4 _ rfl⟩ rfl rfl (fun K hK=>?_) (fun K hK=>?_)
    ·skip
     go_wp2_with fail
     replace T:=T.alloc5;generalize World.alloc _ _=W3 at T ⊢;refine consC (i:=9) (by kernel_rfl) (by kernel_rfl) ⟨T.bx.cell 3 _ rfl,T.bx.cell 4 _ rfl⟩ rfl (fun K hK=>?_);go_wp2_with fail
     replace T:=T.alloc6;generalize World.alloc _ _=W4 at T ⊢;have g5:=(T.x5 _ rfl).1;have N:=T.put (x0,x1,x2,x3);have p0:=g5.cell 0 _ rfl;have q0:=g5.frozen 0;have p1:=g5.cell 1 _ rfl;have q1:=g5.frozen 1;have p2:=g5.cell 2 _ rfl;have q2:=g5.frozen 2;have p3:=g5.cell 3 _ rfl;have q3:=g5.frozen 3;have HN:=Lib.hid N;clear N g5;refine consC (i:=10) (by kernel_rfl) (by kernel_rfl) ⟨T.bx.cell 3 _ rfl,T.bx.cell 4 _ rfl⟩ rfl (fun K hK=>?_);have HT:=Lib.hid T;clear T;go_wp2_with fail
     have N:=HN.out;clear p0 p1 p2 p3 q0 q1 q2 q3 HN HT;change OneS _ (World.setCell _ _ _) _ _ _ _ _ at N;generalize World.setCell _ _ _=WN at N ⊢;have g6:=N.x6;have E:=N.put (y0,y1,y2,y3);have p0:=g6.cell 0 _ rfl;have q0:=g6.frozen 0;have p1:=g6.cell 1 _ rfl;have q1:=g6.frozen 1;have p2:=g6.cell 2 _ rfl;have q2:=g6.frozen 2;have p3:=g6.cell 3 _ rfl;have q3:=g6.frozen 3;have HE:=Lib.hid E;clear E;refine lastC (by kernel_rfl) (by kernel_rfl) ⟨N.bx.cell 3 _ rfl,N.bx.cell 4 _ rfl⟩ (of_decide_eq_true (by kernel_rfl)) ?_;refine any_seqI [11] [_] _ _ _ rfl (by kernel_rfl) ?_;clear N g6;go_wp2_with fail
     go_meet
     exact ⟨_,_,rfl,rfl,HE.out⟩
    ·skip
     go_wp2_with fail
     replace T:=T.alloc6;generalize World.alloc _ _=W5 at T ⊢;refine consC (i:=8) (by kernel_rfl) (by kernel_rfl) ⟨T.bx.cell 3 _ rfl,T.bx.cell 4 _ rfl⟩ rfl (fun K hK=>?_);go_wp2_with fail
     replace T:=T.alloc5;generalize World.alloc _ _=W6 at T ⊢;have g5:=(T.x5 _ rfl).1;have N:=T.put (x0,x1,x2,x3);have p0:=g5.cell 0 _ rfl;have q0:=g5.frozen 0;have p1:=g5.cell 1 _ rfl;have q1:=g5.frozen 1;have p2:=g5.cell 2 _ rfl;have q2:=g5.frozen 2;have p3:=g5.cell 3 _ rfl;have q3:=g5.frozen 3;have HN:=Lib.hid N;clear N g5;refine consC (i:=10) (by kernel_rfl) (by kernel_rfl) ⟨T.bx.cell 3 _ rfl,T.bx.cell 4 _ rfl⟩ rfl (fun K hK=>?_);have HT:=Lib.hid T;clear T;go_wp2_with fail
     have N:=HN.out;clear p0 p1 p2 p3 q0 q1 q2 q3 HN HT;change OneS _ (World.setCell _ _ _) _ _ _ _ _ at N;generalize World.setCell _ _ _=WN at N ⊢;have g6:=N.x6;have E:=N.put (y0,y1,y2,y3);have p0:=g6.cell 0 _ rfl;have q0:=g6.frozen 0;have p1:=g6.cell 1 _ rfl;have q1:=g6.frozen 1;have p2:=g6.cell 2 _ rfl;have q2:=g6.frozen 2;have p3:=g6.cell 3 _ rfl;have q3:=g6.frozen 3;have HE:=Lib.hid E;clear E;refine lastC (by kernel_rfl) (by kernel_rfl) ⟨N.bx.cell 3 _ rfl,N.bx.cell 4 _ rfl⟩ (of_decide_eq_true (by kernel_rfl)) ?_;refine any_seqI [11] [_] _ _ _ rfl (by kernel_rfl) ?_;clear N g6;go_wp2_with fail
     go_meet
     exact ⟨_,_,rfl,rfl,HE.out⟩
   ·skip
    go_wp2_with fail
    replace T:=T.alloc5;generalize World.alloc _ _=W7 at T ⊢;refine fork2 (i:=7) (j:=9) (by kernel_rfl) (by kernel_rfl) ⟨T.bx.cell 3 _ rfl,T.bx.cell 4 _ rfl⟩ rfl rfl (fun K hK=>?_) (fun K hK=>?_)
    ·skip
     go_wp2_with fail
     refine (CE.out ej _ T.bel).mono ?_;rintro e W8 ⟨rfl,b1⟩;replace T:=T.below b1;clear b1;rw [HY.out];go_wp2_with fail
     refine consC (i:=9) (by kernel_rfl) (by kernel_rfl) ⟨T.bx.cell 3 _ rfl,T.bx.cell 4 _ rfl⟩ rfl (fun K hK=>?_);go_wp2_with fail
     replace T:=T.alloc6;generalize World.alloc _ _=W9 at T ⊢;have g5:=(T.x5 _ rfl).1;have N:=T.put (x0,x1,x2,x3);have p0:=g5.cell 0 _ rfl;have q0:=g5.frozen 0;have p1:=g5.cell 1 _ rfl;have q1:=g5.frozen 1;have p2:=g5.cell 2 _ rfl;have q2:=g5.frozen 2;have p3:=g5.cell 3 _ rfl;have q3:=g5.frozen 3;have HN:=Lib.hid N;clear N g5;refine consC (i:=10) (by kernel_rfl) (by kernel_rfl) ⟨T.bx.cell 3 _ rfl,T.bx.cell 4 _ rfl⟩ rfl (fun K hK=>?_);have HT:=Lib.hid T;clear T;go_wp2_with fail
     have N:=HN.out;clear p0 p1 p2 p3 q0 q1 q2 q3 HN HT;change OneS _ (World.setCell _ _ _) _ _ _ _ _ at N;generalize World.setCell _ _ _=WN at N ⊢;have g6:=N.x6;have E:=N.put (y0,y1,y2,y3);have p0:=g6.cell 0 _ rfl;have q0:=g6.frozen 0;have p1:=g6.cell 1 _ rfl;have q1:=g6.frozen 1;have p2:=g6.cell 2 _ rfl;have q2:=g6.frozen 2;have p3:=g6.cell 3 _ rfl;have q3:=g6.frozen 3;have HE:=Lib.hid E;clear E;refine lastC (by kernel_rfl) (by kernel_rfl) ⟨N.bx.cell 3 _ rfl,N.bx.cell 4 _ rfl⟩ (of_decide_eq_true (by kernel_rfl)) ?_;refine any_seqI [11] [_] _ _ _ rfl (by kernel_rfl) ?_;clear N g6;go_wp2_with fail
     go_meet
     exact ⟨_,_,rfl,rfl,HE.out⟩
    ·skip
     go_wp2_with fail
     replace T:=T.alloc6;generalize World.alloc _ _=W10 at T ⊢;refine consC (i:=7) (by kernel_rfl) (by kernel_rfl) ⟨T.bx.cell 3 _ rfl,T.bx.cell 4 _ rfl⟩ rfl (fun K hK=>?_);go_wp2_with fail
     refine (CE.out ej _ T.bel).mono ?_;rintro e W11 ⟨rfl,b1⟩;replace T:=T.below b1;clear b1;rw [HY.out];go_wp2_with fail
     have g5:=(T.x5 _ rfl).1;have N:=T.put (x0,x1,x2,x3);have p0:=g5.cell 0 _ rfl;have q0:=g5.frozen 0;have p1:=g5.cell 1 _ rfl;have q1:=g5.frozen 1;have p2:=g5.cell 2 _ rfl;have q2:=g5.frozen 2;have p3:=g5.cell 3 _ rfl;have q3:=g5.frozen 3;have HN:=Lib.hid N;clear N g5;refine consC (i:=10) (by kernel_rfl) (by kernel_rfl) ⟨T.bx.cell 3 _ rfl,T.bx.cell 4 _ rfl⟩ rfl (fun K hK=>?_);have HT:=Lib.hid T;clear T;go_wp2_with fail
     have N:=HN.out;clear p0 p1 p2 p3 q0 q1 q2 q3 HN HT;change OneS _ (World.setCell _ _ _) _ _ _ _ _ at N;generalize World.setCell _ _ _=WN at N ⊢;have g6:=N.x6;have E:=N.put (y0,y1,y2,y3);have p0:=g6.cell 0 _ rfl;have q0:=g6.frozen 0;have p1:=g6.cell 1 _ rfl;have q1:=g6.frozen 1;have p2:=g6.cell 2 _ rfl;have q2:=g6.frozen 2;have p3:=g6.cell 3 _ rfl;have q3:=g6.frozen 3;have HE:=Lib.hid E;clear E;refine lastC (by kernel_rfl) (by kernel_rfl) ⟨N.bx.cell 3 _ rfl,N.bx.cell 4 _ rfl⟩ (of_decide_eq_true (by kernel_rfl)) ?_;refine any_seqI [11] [_] _ _ _ rfl (by kernel_rfl) ?_;clear N g6;go_wp2_with fail
     go_meet
     exact ⟨_,_,rfl,rfl,HE.out⟩
   ·skip
    go_wp2_with fail
    replace T:=T.alloc6;generalize World.alloc _ _=W12 at T ⊢;refine fork2 (i:=7) (j:=8) (by kernel_rfl) (by kernel_rfl) ⟨T.bx.cell 3 _ rfl,T.bx.cell 4 _ rfl⟩ rfl rfl (fun K hK=>?_) (fun K hK=>?_)
    ·skip
     go_wp2_with fail
     refine (CE.out ej _ T.bel).mono ?_;rintro e W13 ⟨rfl,b1⟩;replace T:=T.below b1;clear b1;rw [HY.out];go_wp2_with fail
     refine consC (i:=8) (by kernel_rfl) (by kernel_rfl) ⟨T.bx.cell 3 _ rfl,T.bx.cell 4 _ rfl⟩ rfl (fun K hK=>?_);go_wp2_with fail
     replace T:=T.alloc5;generalize World.alloc _ _=W14 at T ⊢;have g5:=(T.x5 _ rfl).1;have N:=T.put (x0,x1,x2,x3);have p0:=g5.cell 0 _ rfl;have q0:=g5.frozen 0;have p1:=g5.cell 1 _ rfl;have q1:=g5.frozen 1;have p2:=g5.cell 2 _ rfl;have q2:=g5.frozen 2;have p3:=g5.cell 3 _ rfl;have q3:=g5.frozen 3;have HN:=Lib.hid N;clear N g5;refine consC (i:=10) (by kernel_rfl) (by kernel_rfl) ⟨T.bx.cell 3 _ rfl,T.bx.cell 4 _ rfl⟩ rfl (fun K hK=>?_);have HT:=Lib.hid T;clear T;go_wp2_with fail
     have N:=HN.out;clear p0 p1 p2 p3 q0 q1 q2 q3 HN HT;change OneS _ (World.setCell _ _ _) _ _ _ _ _ at N;generalize World.setCell _ _ _=WN at N ⊢;have g6:=N.x6;have E:=N.put (y0,y1,y2,y3);have p0:=g6.cell 0 _ rfl;have q0:=g6.frozen 0;have p1:=g6.cell 1 _ rfl;have q1:=g6.frozen 1;have p2:=g6.cell 2 _ rfl;have q2:=g6.frozen 2;have p3:=g6.cell 3 _ rfl;have q3:=g6.frozen 3;have HE:=Lib.hid E;clear E;refine lastC (by kernel_rfl) (by kernel_rfl) ⟨N.bx.cell 3 _ rfl,N.bx.cell 4 _ rfl⟩ (of_decide_eq_true (by kernel_rfl)) ?_;refine any_seqI [11] [_] _ _ _ rfl (by kernel_rfl) ?_;clear N g6;go_wp2_with fail
     go_meet
     exact ⟨_,_,rfl,rfl,HE.out⟩
    ·skip
     go_wp2_with fail
     replace T:=T.alloc5;generalize World.alloc _ _=W15 at T ⊢;refine consC (i:=7) (by kernel_rfl) (by kernel_rfl) ⟨T.bx.cell 3 _ rfl,T.bx.cell 4 _ rfl⟩ rfl (fun K hK=>?_);go_wp2_with fail
     refine (CE.out ej _ T.bel).mono ?_;rintro e W16 ⟨rfl,b1⟩;replace T:=T.below b1;clear b1;rw [HY.out];go_wp2_with fail
     have g5:=(T.x5 _ rfl).1;have N:=T.put (x0,x1,x2,x3);have p0:=g5.cell 0 _ rfl;have q0:=g5.frozen 0;have p1:=g5.cell 1 _ rfl;have q1:=g5.frozen 1;have p2:=g5.cell 2 _ rfl;have q2:=g5.frozen 2;have p3:=g5.cell 3 _ rfl;have q3:=g5.frozen 3;have HN:=Lib.hid N;clear N g5;refine consC (i:=10) (by kernel_rfl) (by kernel_rfl) ⟨T.bx.cell 3 _ rfl,T.bx.cell 4 _ rfl⟩ rfl (fun K hK=>?_);have HT:=Lib.hid T;clear T;go_wp2_with fail
     have N:=HN.out;clear p0 p1 p2 p3 q0 q1 q2 q3 HN HT;change OneS _ (World.setCell _ _ _) _ _ _ _ _ at N;generalize World.setCell _ _ _=WN at N ⊢;have g6:=N.x6;have E:=N.put (y0,y1,y2,y3);have p0:=g6.cell 0 _ rfl;have q0:=g6.frozen 0;have p1:=g6.cell 1 _ rfl;have q1:=g6.frozen 1;have p2:=g6.cell 2 _ rfl;have q2:=g6.frozen 2;have p3:=g6.cell 3 _ rfl;have q3:=g6.frozen 3;have HE:=Lib.hid E;clear E;refine lastC (by kernel_rfl) (by kernel_rfl) ⟨N.bx.cell 3 _ rfl,N.bx.cell 4 _ rfl⟩ (of_decide_eq_true (by kernel_rfl)) ?_;refine any_seqI [11] [_] _ _ _ rfl (by kernel_rfl) ?_;clear N g6;go_wp2_with fail
     go_meet
     exact ⟨_,_,rfl,rfl,HE.out⟩
  ·skip
   go_wp2_with fail
   replace T:=T.alloc5;generalize World.alloc _ _=W17 at T ⊢;refine fork2 (i:=3) (j:=9) (by kernel_rfl) (by kernel_rfl) ⟨T.bx.cell 3 _ rfl,T.bx.cell 4 _ rfl⟩ rfl rfl (fun K hK=>?_) (fun K hK=>?_)
   ·skip
    go_wp2_with fail
    refine (CE.out ei _ T.bel).mono ?_;rintro e W18 ⟨rfl,b1⟩;replace T:=T.below b1;clear b1;rw [HX.out];go_wp2_with fail
    refine fork2 (i:=7) (j:=9) (by kernel_rfl) (by kernel_rfl) ⟨T.bx.cell 3 _ rfl,T.bx.cell 4 _ rfl⟩ rfl rfl (fun K hK=>?_) (fun K hK=>?_)
    ·skip
     go_wp2_with fail
     refine (CE.out ej _ T.bel).mono ?_;rintro e W19 ⟨rfl,b1⟩;replace T:=T.below b1;clear b1;rw [HY.out];go_wp2_with fail
     refine consC (i:=9) (by kernel_rfl) (by kernel_rfl) ⟨T.bx.cell 3 _ rfl,T.bx.cell 4 _ rfl⟩ rfl (fun K hK=>?_);go_wp2_with fail
     replace T:=T.alloc6;generalize World.alloc _ _=W20 at T ⊢;have g5:=(T.x5 _ rfl).1;have N:=T.put (x0,x1,x2,x3);have p0:=g5.cell 0 _ rfl;have q0:=g5.frozen 0;have p1:=g5.cell 1 _ rfl;have q1:=g5.frozen 1;have p2:=g5.cell 2 _ rfl;have q2:=g5.frozen 2;have p3:=g5.cell 3 _ rfl;have q3:=g5.frozen 3;have HN:=Lib.hid N;clear N g5;refine consC (i:=10) (by kernel_rfl) (by kernel_rfl) ⟨T.bx.cell 3 _ rfl,T.bx.cell 4 _ rfl⟩ rfl (fun K hK=>?_);have HT:=Lib.hid T;clear T;go_wp2_with fail
     have N:=HN.out;clear p0 p1 p2 p3 q0 q1 q2 q3 HN HT;change OneS _ (World.setCell _ _ _) _ _ _ _ _ at N;generalize World.setCell _ _ _=WN at N ⊢;have g6:=N.x6;have E:=N.put (y0,y1,y2,y3);have p0:=g6.cell 0 _ rfl;have q0:=g6.frozen 0;have p1:=g6.cell 1 _ rfl;have q1:=g6.frozen 1;have p2:=g6.cell 2 _ rfl;have q2:=g6.frozen 2;have p3:=g6.cell 3 _ rfl;have q3:=g6.frozen 3;have HE:=Lib.hid E;clear E;refine lastC (by kernel_rfl) (by kernel_rfl) ⟨N.bx.cell 3 _ rfl,N.bx.cell 4 _ rfl⟩ (of_decide_eq_true (by kernel_rfl)) ?_;refine any_seqI [11] [_] _ _ _ rfl (by kernel_rfl) ?_;clear N g6;go_wp2_with fail
     go_meet
     exact ⟨_,_,rfl,rfl,HE.out⟩
    ·skip
     go_wp2_with fail
     replace T:=T.alloc6;generalize World.alloc _ _=W21 at T ⊢;refine consC (i:=7) (by kernel_rfl) (by kernel_rfl) ⟨T.bx.cell 3 _ rfl,T.bx.cell 4 _ rfl⟩ rfl (fun K hK=>?_);go_wp2_with fail
     refine (CE.out ej _ T.bel).mono ?_;rintro e W22 ⟨rfl,b1⟩;replace T:=T.below b1;clear b1;rw [HY.out];go_wp2_with fail
     have g5:=(T.x5 _ rfl).1;have N:=T.put (x0,x1,x2,x3);have p0:=g5.cell 0 _ rfl;have q0:=g5.frozen 0;have p1:=g5.cell 1 _ rfl;have q1:=g5.frozen 1;have p2:=g5.cell 2 _ rfl;have q2:=g5.frozen 2;have p3:=g5.cell 3 _ rfl;have q3:=g5.frozen 3;have HN:=Lib.hid N;clear N g5;refine consC (i:=10) (by kernel_rfl) (by kernel_rfl) ⟨T.bx.cell 3 _ rfl,T.bx.cell 4 _ rfl⟩ rfl (fun K hK=>?_);have HT:=Lib.hid T;clear T;go_wp2_with fail
     have N:=HN.out;clear p0 p1 p2 p3 q0 q1 q2 q3 HN HT;change OneS _ (World.setCell _ _ _) _ _ _ _ _ at N;generalize World.setCell _ _ _=WN at N ⊢;have g6:=N.x6;have E:=N.put (y0,y1,y2,y3);have p0:=g6.cell 0 _ rfl;have q0:=g6.frozen 0;have p1:=g6.cell 1 _ rfl;have q1:=g6.frozen 1;have p2:=g6.cell 2 _ rfl;have q2:=g6.frozen 2;have p3:=g6.cell 3 _ rfl;have q3:=g6.frozen 3;have HE:=Lib.hid E;clear E;refine lastC (by kernel_rfl) (by kernel_rfl) ⟨N.bx.cell 3 _ rfl,N.bx.cell 4 _ rfl⟩ (of_decide_eq_true (by kernel_rfl)) ?_;refine any_seqI [11] [_] _ _ _ rfl (by kernel_rfl) ?_;clear N g6;go_wp2_with fail
     go_meet
     exact ⟨_,_,rfl,rfl,HE.out⟩
   ·skip
    go_wp2_with fail
    replace T:=T.alloc6;generalize World.alloc _ _=W23 at T ⊢;refine consC (i:=3) (by kernel_rfl) (by kernel_rfl) ⟨T.bx.cell 3 _ rfl,T.bx.cell 4 _ rfl⟩ rfl (fun K hK=>?_);go_wp2_with fail
    refine (CE.out ei _ T.bel).mono ?_;rintro e W24 ⟨rfl,b1⟩;replace T:=T.below b1;clear b1;rw [HX.out];go_wp2_with fail
    refine consC (i:=7) (by kernel_rfl) (by kernel_rfl) ⟨T.bx.cell 3 _ rfl,T.bx.cell 4 _ rfl⟩ rfl (fun K hK=>?_);go_wp2_with fail
    refine (CE.out ej _ T.bel).mono ?_;rintro e W25 ⟨rfl,b1⟩;replace T:=T.below b1;clear b1;rw [HY.out];go_wp2_with fail
    have g5:=(T.x5 _ rfl).1;have N:=T.put (x0,x1,x2,x3);have p0:=g5.cell 0 _ rfl;have q0:=g5.frozen 0;have p1:=g5.cell 1 _ rfl;have q1:=g5.frozen 1;have p2:=g5.cell 2 _ rfl;have q2:=g5.frozen 2;have p3:=g5.cell 3 _ rfl;have q3:=g5.frozen 3;have HN:=Lib.hid N;clear N g5;refine consC (i:=10) (by kernel_rfl) (by kernel_rfl) ⟨T.bx.cell 3 _ rfl,T.bx.cell 4 _ rfl⟩ rfl (fun K hK=>?_);have HT:=Lib.hid T;clear T;go_wp2_with fail
    have N:=HN.out;clear p0 p1 p2 p3 q0 q1 q2 q3 HN HT;change OneS _ (World.setCell _ _ _) _ _ _ _ _ at N;generalize World.setCell _ _ _=WN at N ⊢;have g6:=N.x6;have E:=N.put (y0,y1,y2,y3);have p0:=g6.cell 0 _ rfl;have q0:=g6.frozen 0;have p1:=g6.cell 1 _ rfl;have q1:=g6.frozen 1;have p2:=g6.cell 2 _ rfl;have q2:=g6.frozen 2;have p3:=g6.cell 3 _ rfl;have q3:=g6.frozen 3;have HE:=Lib.hid E;clear E;refine lastC (by kernel_rfl) (by kernel_rfl) ⟨N.bx.cell 3 _ rfl,N.bx.cell 4 _ rfl⟩ (of_decide_eq_true (by kernel_rfl)) ?_;refine any_seqI [11] [_] _ _ _ rfl (by kernel_rfl) ?_;clear N g6;go_wp2_with fail
    go_meet
    exact ⟨_,_,rfl,rfl,HE.out⟩
  ·skip
   go_wp2_with fail
   replace T:=T.alloc6;generalize World.alloc _ _=W26 at T ⊢;refine fork2 (i:=3) (j:=8) (by kernel_rfl) (by kernel_rfl) ⟨T.bx.cell 3 _ rfl,T.bx.cell 4 _ rfl⟩ rfl rfl (fun K hK=>?_) (fun K hK=>?_)
   ·skip
    go_wp2_with fail
    refine (CE.out ei _ T.bel).mono ?_;rintro e W27 ⟨rfl,b1⟩;replace T:=T.below b1;clear b1;rw [HX.out];go_wp2_with fail
    refine fork2 (i:=7) (j:=8) (by kernel_rfl) (by kernel_rfl) ⟨T.bx.cell 3 _ rfl,T.bx.cell 4 _ rfl⟩ rfl rfl (fun K hK=>?_) (fun K hK=>?_)
    ·skip
     go_wp2_with fail
     refine (CE.out ej _ T.bel).mono ?_;rintro e W28 ⟨rfl,b1⟩;replace T:=T.below b1;clear b1;rw [HY.out];go_wp2_with fail
     refine consC (i:=8) (by kernel_rfl) (by kernel_rfl) ⟨T.bx.cell 3 _ rfl,T.bx.cell 4 _ rfl⟩ rfl (fun K hK=>?_);go_wp2_with fail
     replace T:=T.alloc5;generalize World.alloc _ _=W29 at T ⊢;have g5:=(T.x5 _ rfl).1;have N:=T.put (x0,x1,x2,x3);have p0:=g5.cell 0 _ rfl;have q0:=g5.frozen 0;have p1:=g5.cell 1 _ rfl;have q1:=g5.frozen 1;have p2:=g5.cell 2 _ rfl;have q2:=g5.frozen 2;have p3:=g5.cell 3 _ rfl;have q3:=g5.frozen 3;have HN:=Lib.hid N;clear N g5;refine consC (i:=10) (by kernel_rfl) (by kernel_rfl) ⟨T.bx.cell 3 _ rfl,T.bx.cell 4 _ rfl⟩ rfl (fun K hK=>?_);have HT:=Lib.hid T;clear T;go_wp2_with fail
     have N:=HN.out;clear p0 p1 p2 p3 q0 q1 q2 q3 HN HT;change OneS _ (World.setCell _ _ _) _ _ _ _ _ at N;generalize World.setCell _ _ _=WN at N ⊢;have g6:=N.x6;have E:=N.put (y0,y1,y2,y3);have p0:=g6.cell 0 _ rfl;have q0:=g6.frozen 0;have p1:=g6.cell 1 _ rfl;have q1:=g6.frozen 1;have p2:=g6.cell 2 _ rfl;have q2:=g6.frozen 2;have p3:=g6.cell 3 _ rfl;have q3:=g6.frozen 3;have HE:=Lib.hid E;clear E;refine lastC (by kernel_rfl) (by kernel_rfl) ⟨N.bx.cell 3 _ rfl,N.bx.cell 4 _ rfl⟩ (of_decide_eq_true (by kernel_rfl)) ?_;refine any_seqI [11] [_] _ _ _ rfl (by kernel_rfl) ?_;clear N g6;go_wp2_with fail
     go_meet
     exact ⟨_,_,rfl,rfl,HE.out⟩
    ·skip
     go_wp2_with fail
     replace T:=T.alloc5;generalize World.alloc _ _=W30 at T ⊢;refine consC (i:=7) (by kernel_rfl) (by kernel_rfl) ⟨T.bx.cell 3 _ rfl,T.bx.cell 4 _ rfl⟩ rfl (fun K hK=>?_);go_wp2_with fail
     refine (CE.out ej _ T.bel).mono ?_;rintro e W31 ⟨rfl,b1⟩;replace T:=T.below b1;clear b1;rw [HY.out];go_wp2_with fail
     have g5:=(T.x5 _ rfl).1;have N:=T.put (x0,x1,x2,x3);have p0:=g5.cell 0 _ rfl;have q0:=g5.frozen 0;have p1:=g5.cell 1 _ rfl;have q1:=g5.frozen 1;have p2:=g5.cell 2 _ rfl;have q2:=g5.frozen 2;have p3:=g5.cell 3 _ rfl;have q3:=g5.frozen 3;have HN:=Lib.hid N;clear N g5;refine consC (i:=10) (by kernel_rfl) (by kernel_rfl) ⟨T.bx.cell 3 _ rfl,T.bx.cell 4 _ rfl⟩ rfl (fun K hK=>?_);have HT:=Lib.hid T;clear T;go_wp2_with fail
     have N:=HN.out;clear p0 p1 p2 p3 q0 q1 q2 q3 HN HT;change OneS _ (World.setCell _ _ _) _ _ _ _ _ at N;generalize World.setCell _ _ _=WN at N ⊢;have g6:=N.x6;have E:=N.put (y0,y1,y2,y3);have p0:=g6.cell 0 _ rfl;have q0:=g6.frozen 0;have p1:=g6.cell 1 _ rfl;have q1:=g6.frozen 1;have p2:=g6.cell 2 _ rfl;have q2:=g6.frozen 2;have p3:=g6.cell 3 _ rfl;have q3:=g6.frozen 3;have HE:=Lib.hid E;clear E;refine lastC (by kernel_rfl) (by kernel_rfl) ⟨N.bx.cell 3 _ rfl,N.bx.cell 4 _ rfl⟩ (of_decide_eq_true (by kernel_rfl)) ?_;refine any_seqI [11] [_] _ _ _ rfl (by kernel_rfl) ?_;clear N g6;go_wp2_with fail
     go_meet
     exact ⟨_,_,rfl,rfl,HE.out⟩
   ·skip
    go_wp2_with fail
    replace T:=T.alloc5;generalize World.alloc _ _=W32 at T ⊢;refine consC (i:=3) (by kernel_rfl) (by kernel_rfl) ⟨T.bx.cell 3 _ rfl,T.bx.cell 4 _ rfl⟩ rfl (fun K hK=>?_);go_wp2_with fail
    refine (CE.out ei _ T.bel).mono ?_;rintro e W33 ⟨rfl,b1⟩;replace T:=T.below b1;clear b1;rw [HX.out];go_wp2_with fail
    refine consC (i:=7) (by kernel_rfl) (by kernel_rfl) ⟨T.bx.cell 3 _ rfl,T.bx.cell 4 _ rfl⟩ rfl (fun K hK=>?_);go_wp2_with fail
    refine (CE.out ej _ T.bel).mono ?_;rintro e W34 ⟨rfl,b1⟩;replace T:=T.below b1;clear b1;rw [HY.out];go_wp2_with fail
    have g5:=(T.x5 _ rfl).1;have N:=T.put (x0,x1,x2,x3);have p0:=g5.cell 0 _ rfl;have q0:=g5.frozen 0;have p1:=g5.cell 1 _ rfl;have q1:=g5.frozen 1;have p2:=g5.cell 2 _ rfl;have q2:=g5.frozen 2;have p3:=g5.cell 3 _ rfl;have q3:=g5.frozen 3;have HN:=Lib.hid N;clear N g5;refine consC (i:=10) (by kernel_rfl) (by kernel_rfl) ⟨T.bx.cell 3 _ rfl,T.bx.cell 4 _ rfl⟩ rfl (fun K hK=>?_);have HT:=Lib.hid T;clear T;go_wp2_with fail
    have N:=HN.out;clear p0 p1 p2 p3 q0 q1 q2 q3 HN HT;change OneS _ (World.setCell _ _ _) _ _ _ _ _ at N;generalize World.setCell _ _ _=WN at N ⊢;have g6:=N.x6;have E:=N.put (y0,y1,y2,y3);have p0:=g6.cell 0 _ rfl;have q0:=g6.frozen 0;have p1:=g6.cell 1 _ rfl;have q1:=g6.frozen 1;have p2:=g6.cell 2 _ rfl;have q2:=g6.frozen 2;have p3:=g6.cell 3 _ rfl;have q3:=g6.frozen 3;have HE:=Lib.hid E;clear E;refine lastC (by kernel_rfl) (by kernel_rfl) ⟨N.bx.cell 3 _ rfl,N.bx.cell 4 _ rfl⟩ (of_decide_eq_true (by kernel_rfl)) ?_;refine any_seqI [11] [_] _ _ _ rfl (by kernel_rfl) ?_;clear N g6;go_wp2_with fail
    go_meet
    exact ⟨_,_,rfl,rfl,HE.out⟩
 obtain ⟨bx,cy,rfl,rfl,E⟩:=hcut;clear B0 X0;have e0:=E.bx.cell 0 _ rfl;have e1:=E.bx.cell 1 _ rfl;have e2:=E.bx.cell 2 _ rfl;have e3:=E.bx.cell 3 _ rfl;have e4:=E.bx.cell 4 _ rfl;have xx0:=E.x5.cell 0 _ rfl;have xx1:=E.x5.cell 1 _ rfl;have xx2:=E.x5.cell 2 _ rfl;have xx3:=E.x5.cell 3 _ rfl;have yy0:=E.x6.cell 0 _ rfl;have yy1:=E.x6.cell 1 _ rfl;have yy2:=E.x6.cell 2 _ rfl;have yy3:=E.x6.cell 3 _ rfl;have Bc:=E.bel;have HE:=Lib.hid E;clear E;have CC1:Hid (∀ (t:Int) V,Below w.heap.size w V→Calls Tryz.prog 40 #[.slice a nn cap,.int .i64 t] V fun e w'=>e=.returned (.int .i64 (cmP l t))∧Below V.heap.size V w'):=CC.out;clear CC;go_upto_region 2 with fail
 refine region_far (by kernel_rfl) (by kernel_rfl) ?_
 repeat (first | go_big_quiet_skip | (go_big_quiet_want;go_big_quiet_op;first | go_big_quiet_on | go_big_quiet_call (first | (go_at_call 40;exact calls_far (CC1.out _ _ (bel_trans Bc (farW_bel _ _)))))))
 refine wpQuiet_nil ?_;rintro w' ⟨U,rfl⟩;have E1:=HE.out.below (farW_bel wc U);rw [HZF.out,HZT.out];generalize farW wc U=wB at E1 ⊢;clear e0 e1 e2 e3 e4 xx0 xx1 xx2 xx3 yy0 yy1 yy2 yy3 Bc HE CC1;have e0:=E1.bx.cell 0 _ rfl;have e1:=E1.bx.cell 1 _ rfl;have e2:=E1.bx.cell 2 _ rfl;have e3:=E1.bx.cell 3 _ rfl;have e4:=E1.bx.cell 4 _ rfl;have xx0:=E1.x5.cell 0 _ rfl;have xx1:=E1.x5.cell 1 _ rfl;have xx2:=E1.x5.cell 2 _ rfl;have xx3:=E1.x5.cell 3 _ rfl;have yy0:=E1.x6.cell 0 _ rfl;have yy1:=E1.x6.cell 1 _ rfl;have yy2:=E1.x6.cell 2 _ rfl;have yy3:=E1.x6.cell 3 _ rfl;have Bd:=E1.bel;have HE:=Lib.hid E1;clear E1
 have H:r1=true∨(r1=false∧r2=true)∨(r1=false∧r2=false∧r3=true)∨(r1=false∧r2=false∧r3=false∧r4=false)∨(r1=false∧r2=false∧r3=false∧r4=true∧r5=false)∨(r1=false∧r2=false∧r3=false∧r4=true∧r5=true∧r6=false)∨(r1=false∧r2=false∧r3=false∧r4=true∧r5=true∧r6=true):=by
  cases r1<;>cases r2<;>cases r3<;>cases r4<;>cases r5<;>cases r6<;>simp
 rcases H with rfl | ⟨rfl,rfl⟩ | ⟨rfl,rfl,rfl⟩ | ⟨rfl,rfl,rfl,rfl⟩ | ⟨rfl,rfl,rfl,rfl,rfl⟩ | ⟨rfl,rfl,rfl,rfl,rfl,rfl⟩ | ⟨rfl,rfl,rfl,rfl,rfl,rfl⟩
 rotate_right
 ·simp only [Bool.not_true] at n4 n5 n6
  have DK:=pofk15_any wB ek (x0,x1,x2,x3) (y0,y1,y2,y3);rw [HG7.out] at DK;have HR1:Hid (rr=(r7&&(if ek=1 then !decide (zf ≥ zt) else if ek=2 then (x3==y3) else if ek=3 then aheadP l (x0,x1,x2,x3) zt else false))):=HR0.out;cases r7 with
  | false =>
    have HR2:Hid (rr=false):=HR1.out;go_wp2_with fail
    refine DK.mono ?_;rintro e w6 ⟨rfl,b6⟩;go_wp2_with fail
    go_ret
    exact ⟨by rw [HR2.out];rfl,bel_trans Bd b6⟩
  | true =>
    have HR2:Hid (rr=(if ek=1 then !decide (zf ≥ zt) else if ek=2 then (x3==y3) else if ek=3 then aheadP l (x0,x1,x2,x3) zt else false)):=HR1.out;clear HR1 HR0;go_upto_region 6 with fail
    go_wp2_with fail
    refine DK.mono ?_;rintro e w6 ⟨rfl,b6⟩;have E6:=HE.out.below b6;clear e0 e1 e2 e3 e4 xx0 xx1 xx2 xx3 yy0 yy1 yy2 yy3 Bd HE DK b6;have e0:=E6.bx.cell 0 _ rfl;have e1:=E6.bx.cell 1 _ rfl;have e2:=E6.bx.cell 2 _ rfl;have e3:=E6.bx.cell 3 _ rfl;have e4:=E6.bx.cell 4 _ rfl;have xx0:=E6.x5.cell 0 _ rfl;have xx1:=E6.x5.cell 1 _ rfl;have xx2:=E6.x5.cell 2 _ rfl;have xx3:=E6.x5.cell 3 _ rfl;have yy0:=E6.x6.cell 0 _ rfl;have yy1:=E6.x6.cell 1 _ rfl;have yy2:=E6.x6.cell 2 _ rfl;have yy3:=E6.x6.cell 3 _ rfl;have Bd:=E6.bel;clear E6
    by_cases d1:ek=1
    ·have m1:(ek==1)=true:=by rw [d1];rfl
     have m2:(ek==2)=false:=by rw [d1];rfl
     have m3:(ek==3)=false:=by rw [d1];rfl
     obtain ⟨ge,hge⟩:∃ r,decide (zf ≥ zt)=r:=⟨_,rfl⟩;have HR3:Hid (rr=!ge):=by show _=_;rw [← hge];exact HR2.out.trans (if_pos d1)
     clear HR2 d1;cases ge
     all_goals
      go_wp2_with fail
      go_ret
      exact ⟨by rw [HR3.out];rfl,Bd⟩
    ·have m1:(ek==1)=false:=beq_eq_false_iff_ne.2 d1
     replace HR2:Hid (rr=(if ek=2 then (x3==y3) else if ek=3 then aheadP l (x0,x1,x2,x3) zt else false)):=HR2.out.trans (if_neg d1);clear d1
     by_cases d2:ek=2
     ·have m2:(ek==2)=true:=by rw [d2];rfl
      have m3:(ek==3)=false:=by rw [d2];rfl
      obtain ⟨ve,hve⟩:∃ r,(x3==y3)=r:=⟨_,rfl⟩;have hvn:(x3 != y3)=!ve:=by rw [← hve];rfl
      have HR3:Hid (rr=ve):=by show _=_;rw [← hve];exact HR2.out.trans (if_pos d2)
      clear HR2 d2;cases ve
      all_goals
       (first | simp only [Bool.not_true] at hvn | simp only [Bool.not_false] at hvn)
       go_wp2_with fail
       go_ret
       exact ⟨by rw [HR3.out];rfl,Bd⟩
     ·have m2:(ek==2)=false:=beq_eq_false_iff_ne.2 d2
      replace HR2:Hid (rr=(if ek=3 then aheadP l (x0,x1,x2,x3) zt else false)):=HR2.out.trans (if_neg d2);clear d2
      by_cases d3:ek=3
      ·have m3:(ek==3)=true:=by rw [d3];rfl
       obtain ⟨ah,hah⟩:∃ r,aheadP l (x0,x1,x2,x3) zt=r:=⟨_,rfl⟩;have DA:=CA.out (x0,x1,x2,x3) zt _ Bd;rw [hah] at DA;have HR3:Hid (rr=ah):=by show _=_;rw [← hah];exact HR2.out.trans (if_pos d3)
       clear HR2 d3 hah CA;cases ah
       all_goals
        go_wp2_with fail
        refine DA.mono ?_;rintro e w8 ⟨rfl,b8⟩;go_wp2_with fail
        go_ret
        exact ⟨by rw [HR3.out];rfl,bel_trans Bd b8⟩
      ·exfalso
       have h7:=HG7.out;unfold ofK15 at h7;rw [if_neg (beq_eq_false_iff_ne.1 m1),if_neg (beq_eq_false_iff_ne.1 m2),if_neg d3] at h7;cases h7
 all_goals
  (try simp only [Bool.not_true,Bool.not_false] at n4)
  (try simp only [Bool.not_true,Bool.not_false] at n5)
  (try simp only [Bool.not_false] at n6)
  go_wp2_with fail
  go_ret
  exact ⟨by rw [HR0.out];rfl,Bd⟩
end Go.Proofs.YthamoeekiglphaaGreatDoor
