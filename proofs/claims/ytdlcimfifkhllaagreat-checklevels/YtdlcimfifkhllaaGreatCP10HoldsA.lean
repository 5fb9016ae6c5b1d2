/-
  What edges.Holds answers.
-/
import Derived.Test.YtdlcimfifkhllaaGreatCL2a
import Derived.Deep.Cut
namespace Go.Proofs.YtdlcimfifkhllaaGreat
set_option maxRecDepth 100000
open Go.RowKit Go.Maps
set_option linter.unusedVariables false
attribute [local go_sem] ba_size
theorem twoC {P:Program} {md:Region.Mode} {ops:Array Oper} {Q:Exit→Act→World→Prop} {C:World→Prop} {d i j:Nat} {o1 o2:Oper} {f:Nat} {listed:Array Bool} {a:Act} {w:World} (hr:Region.ready md ops listed=[i,j]) (hdl:listed.getD d false=false) (hC:C w) (h1:ops[i]?=some o1) (h2:ops[j]?=some o2)
 (k1:∀ K:Act→World→Prop,(∀ a w,wpAnyC C d P md ops Q f (listed.setIfInBounds i true) a w→K a w)→wpList P ops (Exit.then K Q) [o1] a w)
 (k2:∀ K:Act→World→Prop,(∀ a w,wpAnyC C d P md ops Q f (listed.setIfInBounds j true) a w→K a w)→wpList P ops (Exit.then K Q) [o2] a w):wpAnyC C d P md ops Q (f+1) listed a w:=by
 refine .inr ⟨hdl,hC,fun h0=>(by rw [hr] at h0;cases h0),fun x hx=>?_⟩
 rw [hr] at hx
 have hx':x=i∨x=j:=by simpa using hx
 rcases hx' with rfl | rfl
 ·exact wpOp_of_list h1 (k1 _ fun _ _ h=>h)
 ·exact wpOp_of_list h2 (k2 _ fun _ _ h=>h)
set_option maxHeartbeats 16000000 in
theorem pholds_in (h:List Ev) (v:Value) (w:World) (k f t:Int) (i j:Nat) (hT:IsEvs w v h) (hi:i < h.length) (hj:j < h.length) (hft:f≠t) :
 Calls Tryz.prog 38 #[v,.agg #[.int .i64 k,.int .i64 f,.int .i64 t,.int .i64 (i:Int),.int .i64 (j:Int)]] w fun e w'=>e=.returned (.bool (holdsC h (k,f,t,(i:Int),(j:Int))))∧Below w.heap.size w w':=by
 have DF:=fun W hW=>pfind8_any h v W f (hT.below (w':=W) hW)
 have DG:=fun W hW=>pfind8_any h v W t (hT.below (w':=W) hW)
 have DAA:=fun W hW=>pahead_any h v W (hT.below (w':=W) hW)
 have HI:Hid (i < h.length):=hi
 have HJ:Hid (j < h.length):=hj
 have HFT:Hid (f≠t):=hft
 obtain ⟨a,cap,rfl,h1,h2,h3,HC⟩:=hT.reads
 have CI:=fun W=>pplace_any a h.length cap (i:Int) W
 have CJ:=fun W=>pplace_any a h.length cap (j:Int) W
 simp only [decide_eq_true (show 0≤(i:Int)∧(i:Int) < (h.length:Int) by omega)] at CI
 simp only [decide_eq_true (show 0≤(j:Int)∧(j:Int) < (h.length:Int) by omega)] at CJ
 obtain ⟨bb,off,rfl,HQ⟩:=HC.out (by have:=HI.out;omega)
 obtain ⟨n,hn⟩:∃ n,h.length=n:=⟨_,rfl⟩
 simp only [hn] at DF DG DAA CI CJ
 rw [hn] at h1 h3 hi hj ⊢
 clear hT hn HC
 obtain ⟨⟨x0,x1,x2,x3⟩,hx⟩:∃ x,ev h i=x:=⟨_,rfl⟩
 have HX:Hid (ev h i=(x0,x1,x2,x3)):=hx
 obtain ⟨⟨y0,y1,y2,y3⟩,hy⟩:∃ x,ev h j=x:=⟨_,rfl⟩
 have HY:Hid (ev h j=(y0,y1,y2,y3)):=hy
 clear hx hy
 have lf:=life_comm h f
 have lt:=life_comm h t
 obtain ⟨⟨⟨f0,f1,f2,f3⟩,f4⟩,hf⟩:∃ y,findP h f=y:=⟨_,rfl⟩
 rw [hf] at DF lf
 simp only at DF lf
 obtain ⟨⟨⟨t0,t1,t2,t3⟩,t4⟩,ht⟩:∃ y,findP h t=y:=⟨_,rfl⟩
 rw [ht] at DG lt
 simp only at DG lt
 have HFC:Hid ((f3=true→commL h f=some f2)∧(f3=false→commL h f=none)):=by
  refine ⟨fun e3=>?_,fun e3=>?_⟩
  ·rcases lf with ⟨e,f',g1,g2⟩ | ⟨g1,g2⟩
   ·rw [g1];simp only [Prod.mk.injEq] at g2;rw [g2.1.2.2.1]
   ·rw [e3] at g2;cases g2
  ·rcases lf with ⟨e,f',g1,g2⟩ | ⟨g1,g2⟩
   ·simp only [Prod.mk.injEq] at g2;rw [e3] at g2;cases g2.1.2.2.2
   ·exact g1
 have HTC:Hid ((t3=true→commL h t=some t2)∧(t3=false→commL h t=none)):=by
  refine ⟨fun e3=>?_,fun e3=>?_⟩
  ·rcases lt with ⟨e,f',g1,g2⟩ | ⟨g1,g2⟩
   ·rw [g1];simp only [Prod.mk.injEq] at g2;rw [g2.1.2.2.1]
   ·rw [e3] at g2;cases g2
  ·rcases lt with ⟨e,f',g1,g2⟩ | ⟨g1,g2⟩
   ·simp only [Prod.mk.injEq] at g2;rw [e3] at g2;cases g2.1.2.2.2
   ·exact g1
 clear lf lt hf ht
 have DA:=DAA
 obtain ⟨R,hR⟩:∃ R,holdsC h (k,f,t,(i:Int),(j:Int))=R:=⟨_,rfl⟩
 have HR:Hid (holdsC h (k,f,t,(i:Int),(j:Int))=R):=hR
 rw [hR]
 clear hR DAA
 have hft2:(f==t)=false:=beq_eq_false_iff_ne.2 hft
 have ji:¬ (i:Int) < 0:=by omega
 have ji2:(i:Int) < (n:Int):=by omega
 have jj:¬ (j:Int) < 0:=by omega
 have jj2:(j:Int) < (n:Int):=by omega
 clear hft
 have X0:=SBox.new w 71 #[.int .i64 k,.int .i64 f,.int .i64 t,.int .i64 (i:Int),.int .i64 (j:Int)]
 have B0:=(Below.refl w.heap.size w).alloc (Nat.le_refl _) (.cells #[.int .i64 k,.int .i64 f,.int .i64 t,.int .i64 (i:Int),.int .i64 (j:Int)] 71)
 have c1:=X0.cell 1 _ rfl
 have c2:=X0.cell 2 _ rfl
 have c3:=X0.cell 3 _ rfl
 have c4:=X0.cell 4 _ rfl
 go_enter Tryz.func38,Tryz.ntmps38
 go_wp2_with fail
 refine (CI _).mono ?_
 rintro e1 w1 ⟨rfl,rfl⟩
 go_wp2_with fail
 refine (CJ _).mono ?_
 rintro e1 w1 ⟨rfl,rfl⟩
 go_wp2_with fail
 clear c1 c2 c3 c4
 go_cut [5,6] from 11 (fun s5 s6 W=>∃ bx cy,s5=.pointer (some ⟨bx,0,none⟩)∧s6=.pointer (some ⟨cy,0,none⟩)∧Below w.heap.size w W∧SBox W w.heap.size 71 #[.int .i64 k,.int .i64 f,.int .i64 t,.int .i64 (i:Int),.int .i64 (j:Int)]∧SBox W bx 49 #[.int .i64 x0,.int .i64 x1,.string ⟨x2.toArray⟩,.string ⟨x3.toArray⟩]∧SBox W cy 49 #[.int .i64 y0,.int .i64 y1,.string ⟨y2.toArray⟩,.string ⟨y3.toArray⟩])
 case first =>
  refine wp_region_any (by kernel_rfl) ?_
  change wpAny _ _ _ _ _ _ _ (World.drew _)
  generalize hwd:World.drew _=wd
  have Bd:Below w.heap.size w wd:=by rw [← hwd];exact B0.drew
  have Xd:SBox wd w.heap.size 71 #[.int .i64 k,.int .i64 f,.int .i64 t,.int .i64 (i:Int),.int .i64 (j:Int)]:=by rw [← hwd];exact X0
  clear hwd
  have d3:=Xd.cell 3 _ rfl
  have d4:=Xd.cell 4 _ rfl
  obtain ⟨p0,p1,p2,p3⟩:=HQ.out i HI.out _ Bd
  obtain ⟨q0,q1,q2,q3⟩:=HQ.out j HJ.out _ Bd
  rw [HX.out] at p0 p1 p2 p3
  rw [HY.out] at q0 q1 q2 q3
  simp only at p0 p1 p2 p3 q0 q1 q2 q3
  have sd:=Bd.size
  have xlt:=Xd.lt
  refine any_of_C (C:=fun V=>V.cell? ⟨w.heap.size,3,none⟩=some (.int .i64 (i:Int))∧V.cell? ⟨w.heap.size,4,none⟩=some (.int .i64 (j:Int))∧V.cell? ⟨bb,off+i*4,none⟩=some (.int .i64 x0)∧V.cell? ⟨bb,off+i*4+1,none⟩=some (.int .i64 x1)∧V.cell? ⟨bb,off+i*4+2,none⟩=some (.string ⟨x2.toArray⟩)∧V.cell? ⟨bb,off+i*4+3,none⟩=some (.string ⟨x3.toArray⟩)∧V.cell? ⟨bb,off+j*4,none⟩=some (.int .i64 y0)∧V.cell? ⟨bb,off+j*4+1,none⟩=some (.int .i64 y1)∧V.cell? ⟨bb,off+j*4+2,none⟩=some (.string ⟨y2.toArray⟩)∧V.cell? ⟨bb,off+j*4+3,none⟩=some (.string ⟨y3.toArray⟩)) 13 _ _ _ _ ?_
  refine takeC (i:=0) (v:=.slice (some ⟨bb,off,none⟩) n cap) rfl (by kernel_rfl) (by kernel_rfl) (by kernel_rfl) (by kernel_rfl) (by kernel_rfl) (fun _ _ _ h=>h) (Or.inl ⟨by kernel_rfl,fun V hV=>by obtain ⟨r1,r2,r3,r4,r5,r6,r7,r8,r9,r10⟩:=hV;go_simp⟩) ?_
  refine takeC (i:=1) (v:=.pointer (some ⟨w.heap.size,3,none⟩)) rfl (by kernel_rfl) (by kernel_rfl) (by kernel_rfl) (by kernel_rfl) (by kernel_rfl) (fun _ _ _ h=>h) (Or.inl ⟨by kernel_rfl,fun V hV=>by obtain ⟨r1,r2,r3,r4,r5,r6,r7,r8,r9,r10⟩:=hV;go_simp⟩) ?_
  refine takeC (i:=2) (v:=.int .i64 (i:Int)) rfl (by kernel_rfl) (by kernel_rfl) (by kernel_rfl) (by kernel_rfl) (by kernel_rfl) (fun _ _ _ h=>h) (Or.inl ⟨by kernel_rfl,fun V hV=>by obtain ⟨r1,r2,r3,r4,r5,r6,r7,r8,r9,r10⟩:=hV;go_simp⟩) ?_
  refine takeC (i:=3) (v:=.pointer (some ⟨bb,off+i*4,none⟩)) rfl (by kernel_rfl) (by kernel_rfl) (by kernel_rfl) (by kernel_rfl) (by kernel_rfl) (fun _ _ _ h=>h) (Or.inl ⟨by kernel_rfl,fun V hV=>by obtain ⟨r1,r2,r3,r4,r5,r6,r7,r8,r9,r10⟩:=hV;go_simp⟩) ?_
  refine takeC (i:=4) (v:=.agg #[.int .i64 x0,.int .i64 x1,.string ⟨x2.toArray⟩,.string ⟨x3.toArray⟩]) rfl (by kernel_rfl) (by kernel_rfl) (by kernel_rfl) (by kernel_rfl) (by kernel_rfl) (fun _ _ _ h=>h) (Or.inl ⟨by kernel_rfl,fun V hV=>by obtain ⟨r1,r2,r3,r4,r5,r6,r7,r8,r9,r10⟩:=hV;go_simp⟩) ?_
  refine takeC (i:=5) (v:=.slice (some ⟨bb,off,none⟩) n cap) rfl (by kernel_rfl) (by kernel_rfl) (by kernel_rfl) (by kernel_rfl) (by kernel_rfl) (fun _ _ _ h=>h) (Or.inl ⟨by kernel_rfl,fun V hV=>by obtain ⟨r1,r2,r3,r4,r5,r6,r7,r8,r9,r10⟩:=hV;go_simp⟩) ?_
  refine takeC (i:=6) (v:=.pointer (some ⟨w.heap.size,4,none⟩)) rfl (by kernel_rfl) (by kernel_rfl) (by kernel_rfl) (by kernel_rfl) (by kernel_rfl) (fun _ _ _ h=>h) (Or.inl ⟨by kernel_rfl,fun V hV=>by obtain ⟨r1,r2,r3,r4,r5,r6,r7,r8,r9,r10⟩:=hV;go_simp⟩) ?_
  refine takeC (i:=7) (v:=.int .i64 (j:Int)) rfl (by kernel_rfl) (by kernel_rfl) (by kernel_rfl) (by kernel_rfl) (by kernel_rfl) (fun _ _ _ h=>h) (Or.inl ⟨by kernel_rfl,fun V hV=>by obtain ⟨r1,r2,r3,r4,r5,r6,r7,r8,r9,r10⟩:=hV;go_simp⟩) ?_
  refine takeC (i:=8) (v:=.pointer (some ⟨bb,off+j*4,none⟩)) rfl (by kernel_rfl) (by kernel_rfl) (by kernel_rfl) (by kernel_rfl) (by kernel_rfl) (fun _ _ _ h=>h) (Or.inl ⟨by kernel_rfl,fun V hV=>by obtain ⟨r1,r2,r3,r4,r5,r6,r7,r8,r9,r10⟩:=hV;go_simp⟩) ?_
  refine takeC (i:=9) (v:=.agg #[.int .i64 y0,.int .i64 y1,.string ⟨y2.toArray⟩,.string ⟨y3.toArray⟩]) rfl (by kernel_rfl) (by kernel_rfl) (by kernel_rfl) (by kernel_rfl) (by kernel_rfl) (fun _ _ _ h=>h) (Or.inl ⟨by kernel_rfl,fun V hV=>by obtain ⟨r1,r2,r3,r4,r5,r6,r7,r8,r9,r10⟩:=hV;go_simp⟩) ?_
  refine twoC (i:=10) (j:=11) (by kernel_rfl) (by kernel_rfl) ⟨d3,d4,p0,p1,p2,p3,q0,q1,q2,q3⟩ rfl rfl (fun K hK=>?_) (fun K hK=>?_)
  ·go_wp2_with fail
   refine consC (i:=11) (by kernel_rfl) (by kernel_rfl) ⟨cell_al _ (d3),cell_al _ (d4),cell_al _ (p0),cell_al _ (p1),cell_al _ (p2),cell_al _ (p3),cell_al _ (q0),cell_al _ (q1),cell_al _ (q2),cell_al _ (q3)⟩ rfl (fun K hK=>?_)
   go_wp2_with fail
   have N0:=(SBox.new wd 49 #[.int .i64 0,.int .i64 0,.string ⟨#[]⟩,.string ⟨#[]⟩]).alloc (.cells #[.int .i64 0,.int .i64 0,.string ⟨#[]⟩,.string ⟨#[]⟩] 49)
   have N1:=SBox.new (wd.alloc (.cells #[.int .i64 0,.int .i64 0,.string ⟨#[]⟩,.string ⟨#[]⟩] 49)) 49 #[.int .i64 0,.int .i64 0,.string ⟨#[]⟩,.string ⟨#[]⟩]
   rw [World.size_alloc] at N1
   have B2:Below w.heap.size w ((wd.alloc (.cells #[.int .i64 0,.int .i64 0,.string ⟨#[]⟩,.string ⟨#[]⟩] 49)).alloc (.cells #[.int .i64 0,.int .i64 0,.string ⟨#[]⟩,.string ⟨#[]⟩] 49)):=(Bd.alloc sd _).alloc (by simp;omega) _
   have E2:=(Xd.alloc (.cells #[.int .i64 0,.int .i64 0,.string ⟨#[]⟩,.string ⟨#[]⟩] 49)).alloc (.cells #[.int .i64 0,.int .i64 0,.string ⟨#[]⟩,.string ⟨#[]⟩] 49)
   have x0c:=N0.cell 0 _ rfl
   have x0f:=N0.frozen 0
   have x1c:=N0.cell 1 _ rfl
   have x1f:=N0.frozen 1
   have x2c:=N0.cell 2 _ rfl
   have x2f:=N0.frozen 2
   have x3c:=N0.cell 3 _ rfl
   have x3f:=N0.frozen 3
   refine consC (i:=12) (by kernel_rfl) (by kernel_rfl) ⟨cell_al _ (cell_al _ (d3)),cell_al _ (cell_al _ (d4)),cell_al _ (cell_al _ (p0)),cell_al _ (cell_al _ (p1)),cell_al _ (cell_al _ (p2)),cell_al _ (cell_al _ (p3)),cell_al _ (cell_al _ (q0)),cell_al _ (cell_al _ (q1)),cell_al _ (cell_al _ (q2)),cell_al _ (cell_al _ (q3))⟩ rfl (fun K hK=>?_)
   go_wp2_with fail
   clear x0c x0f x1c x1f x2c x2f x3c x3f
   have M:=(SBox.new (wd.alloc (.cells #[.int .i64 x0,.int .i64 x1,.string ⟨x2.toArray⟩,.string ⟨x3.toArray⟩] 49)) 49 #[.int .i64 0,.int .i64 0,.string ⟨#[]⟩,.string ⟨#[]⟩])
   (try rw [World.size_alloc] at M)
   have y0c:=M.cell 0 _ rfl
   have y0f:=M.frozen 0
   have y1c:=M.cell 1 _ rfl
   have y1f:=M.frozen 1
   have y2c:=M.cell 2 _ rfl
   have y2f:=M.frozen 2
   have y3c:=M.cell 3 _ rfl
   have y3f:=M.frozen 3
   refine lastC (by kernel_rfl) (by kernel_rfl) ⟨cell_al _ (cell_al _ (d3)),cell_al _ (cell_al _ (d4)),cell_al _ (cell_al _ (p0)),cell_al _ (cell_al _ (p1)),cell_al _ (cell_al _ (p2)),cell_al _ (cell_al _ (p3)),cell_al _ (cell_al _ (q0)),cell_al _ (cell_al _ (q1)),cell_al _ (cell_al _ (q2)),cell_al _ (cell_al _ (q3))⟩ (of_decide_eq_true (by kernel_rfl)) ?_
   refine any_seqI [13] [_] _ _ _ rfl (by kernel_rfl) ?_
   go_wp2_with fail
   have Z0:=(SBox.new wd 49 #[.int .i64 x0,.int .i64 x1,.string ⟨x2.toArray⟩,.string ⟨x3.toArray⟩]).alloc (.cells #[.int .i64 y0,.int .i64 y1,.string ⟨y2.toArray⟩,.string ⟨y3.toArray⟩] 49)
   have Z1:=SBox.new (wd.alloc (.cells #[.int .i64 x0,.int .i64 x1,.string ⟨x2.toArray⟩,.string ⟨x3.toArray⟩] 49)) 49 #[.int .i64 y0,.int .i64 y1,.string ⟨y2.toArray⟩,.string ⟨y3.toArray⟩]
   rw [World.size_alloc] at Z1
   have B9:Below w.heap.size w ((wd.alloc (.cells #[.int .i64 x0,.int .i64 x1,.string ⟨x2.toArray⟩,.string ⟨x3.toArray⟩] 49)).alloc (.cells #[.int .i64 y0,.int .i64 y1,.string ⟨y2.toArray⟩,.string ⟨y3.toArray⟩] 49)):=(Bd.alloc sd _).alloc (by simp;omega) _
   have E9:=(Xd.alloc (.cells #[.int .i64 x0,.int .i64 x1,.string ⟨x2.toArray⟩,.string ⟨x3.toArray⟩] 49)).alloc (.cells #[.int .i64 y0,.int .i64 y1,.string ⟨y2.toArray⟩,.string ⟨y3.toArray⟩] 49)
   go_meet
   exact ⟨wd.heap.size,wd.heap.size+1,rfl,rfl,B9,E9,Z0,Z1⟩
  ·go_wp2_with fail
   refine consC (i:=10) (by kernel_rfl) (by kernel_rfl) ⟨cell_al _ (d3),cell_al _ (d4),cell_al _ (p0),cell_al _ (p1),cell_al _ (p2),cell_al _ (p3),cell_al _ (q0),cell_al _ (q1),cell_al _ (q2),cell_al _ (q3)⟩ rfl (fun K hK=>?_)
   go_wp2_with fail
   have N0:=(SBox.new wd 49 #[.int .i64 0,.int .i64 0,.string ⟨#[]⟩,.string ⟨#[]⟩]).alloc (.cells #[.int .i64 0,.int .i64 0,.string ⟨#[]⟩,.string ⟨#[]⟩] 49)
   have N1:=SBox.new (wd.alloc (.cells #[.int .i64 0,.int .i64 0,.string ⟨#[]⟩,.string ⟨#[]⟩] 49)) 49 #[.int .i64 0,.int .i64 0,.string ⟨#[]⟩,.string ⟨#[]⟩]
   rw [World.size_alloc] at N1
   have B2:Below w.heap.size w ((wd.alloc (.cells #[.int .i64 0,.int .i64 0,.string ⟨#[]⟩,.string ⟨#[]⟩] 49)).alloc (.cells #[.int .i64 0,.int .i64 0,.string ⟨#[]⟩,.string ⟨#[]⟩] 49)):=(Bd.alloc sd _).alloc (by simp;omega) _
   have E2:=(Xd.alloc (.cells #[.int .i64 0,.int .i64 0,.string ⟨#[]⟩,.string ⟨#[]⟩] 49)).alloc (.cells #[.int .i64 0,.int .i64 0,.string ⟨#[]⟩,.string ⟨#[]⟩] 49)
   have x0c:=N1.cell 0 _ rfl
   have x0f:=N1.frozen 0
   have x1c:=N1.cell 1 _ rfl
   have x1f:=N1.frozen 1
   have x2c:=N1.cell 2 _ rfl
   have x2f:=N1.frozen 2
   have x3c:=N1.cell 3 _ rfl
   have x3f:=N1.frozen 3
   refine consC (i:=12) (by kernel_rfl) (by kernel_rfl) ⟨cell_al _ (cell_al _ (d3)),cell_al _ (cell_al _ (d4)),cell_al _ (cell_al _ (p0)),cell_al _ (cell_al _ (p1)),cell_al _ (cell_al _ (p2)),cell_al _ (cell_al _ (p3)),cell_al _ (cell_al _ (q0)),cell_al _ (cell_al _ (q1)),cell_al _ (cell_al _ (q2)),cell_al _ (cell_al _ (q3))⟩ rfl (fun K hK=>?_)
   go_wp2_with fail
   clear x0c x0f x1c x1f x2c x2f x3c x3f
   have M:=((SBox.new wd 49 #[.int .i64 0,.int .i64 0,.string ⟨#[]⟩,.string ⟨#[]⟩]).alloc (.cells #[.int .i64 x0,.int .i64 x1,.string ⟨x2.toArray⟩,.string ⟨x3.toArray⟩] 49))
   (try rw [World.size_alloc] at M)
   have y0c:=M.cell 0 _ rfl
   have y0f:=M.frozen 0
   have y1c:=M.cell 1 _ rfl
   have y1f:=M.frozen 1
   have y2c:=M.cell 2 _ rfl
   have y2f:=M.frozen 2
   have y3c:=M.cell 3 _ rfl
   have y3f:=M.frozen 3
   refine lastC (by kernel_rfl) (by kernel_rfl) ⟨cell_al _ (cell_al _ (d3)),cell_al _ (cell_al _ (d4)),cell_al _ (cell_al _ (p0)),cell_al _ (cell_al _ (p1)),cell_al _ (cell_al _ (p2)),cell_al _ (cell_al _ (p3)),cell_al _ (cell_al _ (q0)),cell_al _ (cell_al _ (q1)),cell_al _ (cell_al _ (q2)),cell_al _ (cell_al _ (q3))⟩ (of_decide_eq_true (by kernel_rfl)) ?_
   refine any_seqI [13] [_] _ _ _ rfl (by kernel_rfl) ?_
   go_wp2_with fail
   have Z0:=(SBox.new wd 49 #[.int .i64 y0,.int .i64 y1,.string ⟨y2.toArray⟩,.string ⟨y3.toArray⟩]).alloc (.cells #[.int .i64 x0,.int .i64 x1,.string ⟨x2.toArray⟩,.string ⟨x3.toArray⟩] 49)
   have Z1:=SBox.new (wd.alloc (.cells #[.int .i64 y0,.int .i64 y1,.string ⟨y2.toArray⟩,.string ⟨y3.toArray⟩] 49)) 49 #[.int .i64 x0,.int .i64 x1,.string ⟨x2.toArray⟩,.string ⟨x3.toArray⟩]
   rw [World.size_alloc] at Z1
   have B9:Below w.heap.size w ((wd.alloc (.cells #[.int .i64 y0,.int .i64 y1,.string ⟨y2.toArray⟩,.string ⟨y3.toArray⟩] 49)).alloc (.cells #[.int .i64 x0,.int .i64 x1,.string ⟨x2.toArray⟩,.string ⟨x3.toArray⟩] 49)):=(Bd.alloc sd _).alloc (by simp;omega) _
   have E9:=(Xd.alloc (.cells #[.int .i64 y0,.int .i64 y1,.string ⟨y2.toArray⟩,.string ⟨y3.toArray⟩] 49)).alloc (.cells #[.int .i64 x0,.int .i64 x1,.string ⟨x2.toArray⟩,.string ⟨x3.toArray⟩] 49)
   go_meet
   exact ⟨wd.heap.size+1,wd.heap.size,rfl,rfl,B9,E9,Z1,Z0⟩
 case rest =>
  obtain ⟨bx,cy,rfl,rfl,BC,EC,XB,YB⟩:=hcut
  by_cases c1:x1=f
  ·subst c1
   by_cases c2:y1=t
   ·subst c2
    by_cases c3:x2=y2
    ·subst c3
     cases f3 with
     | false =>
       obtain rfl:R=false:=by rw [← HR.out];exact hold_no h _ (by rintro ⟨a',b',i',j',q1,_⟩;have:=HFC.out.2 rfl;simp only at q1;rw [this] at q1;cases q1)
       cases t3 with
       | false =>
         have g0:=EC.cell 0 _ rfl
         have g1:=EC.cell 1 _ rfl
         have g2:=EC.cell 2 _ rfl
         have u0:=XB.cell 0 _ rfl
         have u1:=XB.cell 1 _ rfl
         have u2:=XB.cell 2 _ rfl
         have u3:=XB.cell 3 _ rfl
         have z0:=YB.cell 0 _ rfl
         have z1:=YB.cell 1 _ rfl
         have z2:=YB.cell 2 _ rfl
         have z3:=YB.cell 3 _ rfl
         go_wp2_with fail
         refine (DF _ BC).mono ?_
         rintro ea wa ⟨rfl,ba⟩
         have Ba':=bel_trans BC ba
         have Ba:=Ba'.alloc Ba'.size (.cells #[.int .i64 f0,.int .i64 (f1:Int),.int .i64 (f2:Int),.bool false] 91)
         have E1:=(EC.below ba).alloc (.cells #[.int .i64 f0,.int .i64 (f1:Int),.int .i64 (f2:Int),.bool false] 91)
         have X1:=(XB.below ba).alloc (.cells #[.int .i64 f0,.int .i64 (f1:Int),.int .i64 (f2:Int),.bool false] 91)
         have Y1:=(YB.below ba).alloc (.cells #[.int .i64 f0,.int .i64 (f1:Int),.int .i64 (f2:Int),.bool false] 91)
         have F1:=SBox.new wa 91 #[.int .i64 f0,.int .i64 (f1:Int),.int .i64 (f2:Int),.bool false]
         clear g0 g1 g2 u0 u1 u2 u3 z0 z1 z2 z3
         have g2:=E1.cell 2 _ rfl
         go_wp2_with fail
         refine (DG _ Ba).mono ?_
         rintro eb wb ⟨rfl,bb'⟩
         have Bb':=bel_trans Ba bb'
         have Bb:=Bb'.alloc Bb'.size (.cells #[.int .i64 t0,.int .i64 (t1:Int),.int .i64 (t2:Int),.bool false] 91)
         have EC:=(E1.below bb').alloc (.cells #[.int .i64 t0,.int .i64 (t1:Int),.int .i64 (t2:Int),.bool false] 91)
         have XB:=(X1.below bb').alloc (.cells #[.int .i64 t0,.int .i64 (t1:Int),.int .i64 (t2:Int),.bool false] 91)
         have YB:=(Y1.below bb').alloc (.cells #[.int .i64 t0,.int .i64 (t1:Int),.int .i64 (t2:Int),.bool false] 91)
         have FB:=(F1.below bb').alloc (.cells #[.int .i64 t0,.int .i64 (t1:Int),.int .i64 (t2:Int),.bool false] 91)
         have TB:=SBox.new wb 91 #[.int .i64 t0,.int .i64 (t1:Int),.int .i64 (t2:Int),.bool false]
         clear g2 E1 X1 Y1 F1
         have g0:=EC.cell 0 _ rfl
         have g1:=EC.cell 1 _ rfl
         have g2:=EC.cell 2 _ rfl
         have u0:=XB.cell 0 _ rfl
         have u1:=XB.cell 1 _ rfl
         have u2:=XB.cell 2 _ rfl
         have u3:=XB.cell 3 _ rfl
         have z0:=YB.cell 0 _ rfl
         have z1:=YB.cell 1 _ rfl
         have z2:=YB.cell 2 _ rfl
         have z3:=YB.cell 3 _ rfl
         have v2:=FB.cell 2 _ rfl
         have v3:=FB.cell 3 _ rfl
         have o0:=TB.cell 0 _ rfl
         have o1:=TB.cell 1 _ rfl
         have o2:=TB.cell 2 _ rfl
         have o3:=TB.cell 3 _ rfl
         go_wp2_with fail
         go_ret
         exact ⟨rfl,Bb⟩
       | true =>
         have g0:=EC.cell 0 _ rfl
         have g1:=EC.cell 1 _ rfl
         have g2:=EC.cell 2 _ rfl
         have u0:=XB.cell 0 _ rfl
         have u1:=XB.cell 1 _ rfl
         have u2:=XB.cell 2 _ rfl
         have u3:=XB.cell 3 _ rfl
         have z0:=YB.cell 0 _ rfl
         have z1:=YB.cell 1 _ rfl
         have z2:=YB.cell 2 _ rfl
         have z3:=YB.cell 3 _ rfl
         go_wp2_with fail
         refine (DF _ BC).mono ?_
         rintro ea wa ⟨rfl,ba⟩
         have Ba':=bel_trans BC ba
         have Ba:=Ba'.alloc Ba'.size (.cells #[.int .i64 f0,.int .i64 (f1:Int),.int .i64 (f2:Int),.bool false] 91)
         have E1:=(EC.below ba).alloc (.cells #[.int .i64 f0,.int .i64 (f1:Int),.int .i64 (f2:Int),.bool false] 91)
         have X1:=(XB.below ba).alloc (.cells #[.int .i64 f0,.int .i64 (f1:Int),.int .i64 (f2:Int),.bool false] 91)
         have Y1:=(YB.below ba).alloc (.cells #[.int .i64 f0,.int .i64 (f1:Int),.int .i64 (f2:Int),.bool false] 91)
         have F1:=SBox.new wa 91 #[.int .i64 f0,.int .i64 (f1:Int),.int .i64 (f2:Int),.bool false]
         clear g0 g1 g2 u0 u1 u2 u3 z0 z1 z2 z3
         have g2:=E1.cell 2 _ rfl
         go_wp2_with fail
         refine (DG _ Ba).mono ?_
         rintro eb wb ⟨rfl,bb'⟩
         have Bb':=bel_trans Ba bb'
         have Bb:=Bb'.alloc Bb'.size (.cells #[.int .i64 t0,.int .i64 (t1:Int),.int .i64 (t2:Int),.bool true] 91)
         have EC:=(E1.below bb').alloc (.cells #[.int .i64 t0,.int .i64 (t1:Int),.int .i64 (t2:Int),.bool true] 91)
         have XB:=(X1.below bb').alloc (.cells #[.int .i64 t0,.int .i64 (t1:Int),.int .i64 (t2:Int),.bool true] 91)
         have YB:=(Y1.below bb').alloc (.cells #[.int .i64 t0,.int .i64 (t1:Int),.int .i64 (t2:Int),.bool true] 91)
         have FB:=(F1.below bb').alloc (.cells #[.int .i64 t0,.int .i64 (t1:Int),.int .i64 (t2:Int),.bool true] 91)
         have TB:=SBox.new wb 91 #[.int .i64 t0,.int .i64 (t1:Int),.int .i64 (t2:Int),.bool true]
         clear g2 E1 X1 Y1 F1
         have g0:=EC.cell 0 _ rfl
         have g1:=EC.cell 1 _ rfl
         have g2:=EC.cell 2 _ rfl
         have u0:=XB.cell 0 _ rfl
         have u1:=XB.cell 1 _ rfl
         have u2:=XB.cell 2 _ rfl
         have u3:=XB.cell 3 _ rfl
         have z0:=YB.cell 0 _ rfl
         have z1:=YB.cell 1 _ rfl
         have z2:=YB.cell 2 _ rfl
         have z3:=YB.cell 3 _ rfl
         have v2:=FB.cell 2 _ rfl
         have v3:=FB.cell 3 _ rfl
         have o0:=TB.cell 0 _ rfl
         have o1:=TB.cell 1 _ rfl
         have o2:=TB.cell 2 _ rfl
         have o3:=TB.cell 3 _ rfl
         go_wp2_with fail
         go_ret
         exact ⟨rfl,Bb⟩
     | true =>
       have HA:Hid (commL h x1=some f2):=HFC.out.1 rfl
       cases t3 with
       | false =>
         obtain rfl:R=false:=by rw [← HR.out];exact hold_no h _ (by rintro ⟨a',b',i',j',_,q1,_⟩;have:=HTC.out.2 rfl;simp only at q1;rw [this] at q1;cases q1)
         have g0:=EC.cell 0 _ rfl
         have g1:=EC.cell 1 _ rfl
         have g2:=EC.cell 2 _ rfl
         have u0:=XB.cell 0 _ rfl
         have u1:=XB.cell 1 _ rfl
         have u2:=XB.cell 2 _ rfl
         have u3:=XB.cell 3 _ rfl
         have z0:=YB.cell 0 _ rfl
         have z1:=YB.cell 1 _ rfl
         have z2:=YB.cell 2 _ rfl
         have z3:=YB.cell 3 _ rfl
         go_wp2_with fail
         refine (DF _ BC).mono ?_
         rintro ea wa ⟨rfl,ba⟩
         have Ba':=bel_trans BC ba
         have Ba:=Ba'.alloc Ba'.size (.cells #[.int .i64 f0,.int .i64 (f1:Int),.int .i64 (f2:Int),.bool true] 91)
         have E1:=(EC.below ba).alloc (.cells #[.int .i64 f0,.int .i64 (f1:Int),.int .i64 (f2:Int),.bool true] 91)
         have X1:=(XB.below ba).alloc (.cells #[.int .i64 f0,.int .i64 (f1:Int),.int .i64 (f2:Int),.bool true] 91)
         have Y1:=(YB.below ba).alloc (.cells #[.int .i64 f0,.int .i64 (f1:Int),.int .i64 (f2:Int),.bool true] 91)
         have F1:=SBox.new wa 91 #[.int .i64 f0,.int .i64 (f1:Int),.int .i64 (f2:Int),.bool true]
         clear g0 g1 g2 u0 u1 u2 u3 z0 z1 z2 z3
         have g2:=E1.cell 2 _ rfl
         go_wp2_with fail
         refine (DG _ Ba).mono ?_
         rintro eb wb ⟨rfl,bb'⟩
         have Bb':=bel_trans Ba bb'
         have Bb:=Bb'.alloc Bb'.size (.cells #[.int .i64 t0,.int .i64 (t1:Int),.int .i64 (t2:Int),.bool false] 91)
         have EC:=(E1.below bb').alloc (.cells #[.int .i64 t0,.int .i64 (t1:Int),.int .i64 (t2:Int),.bool false] 91)
         have XB:=(X1.below bb').alloc (.cells #[.int .i64 t0,.int .i64 (t1:Int),.int .i64 (t2:Int),.bool false] 91)
         have YB:=(Y1.below bb').alloc (.cells #[.int .i64 t0,.int .i64 (t1:Int),.int .i64 (t2:Int),.bool false] 91)
         have FB:=(F1.below bb').alloc (.cells #[.int .i64 t0,.int .i64 (t1:Int),.int .i64 (t2:Int),.bool false] 91)
         have TB:=SBox.new wb 91 #[.int .i64 t0,.int .i64 (t1:Int),.int .i64 (t2:Int),.bool false]
         clear g2 E1 X1 Y1 F1
         have g0:=EC.cell 0 _ rfl
         have g1:=EC.cell 1 _ rfl
         have g2:=EC.cell 2 _ rfl
         have u0:=XB.cell 0 _ rfl
         have u1:=XB.cell 1 _ rfl
         have u2:=XB.cell 2 _ rfl
         have u3:=XB.cell 3 _ rfl
         have z0:=YB.cell 0 _ rfl
         have z1:=YB.cell 1 _ rfl
         have z2:=YB.cell 2 _ rfl
         have z3:=YB.cell 3 _ rfl
         have v2:=FB.cell 2 _ rfl
         have v3:=FB.cell 3 _ rfl
         have o0:=TB.cell 0 _ rfl
         have o1:=TB.cell 1 _ rfl
         have o2:=TB.cell 2 _ rfl
         have o3:=TB.cell 3 _ rfl
         go_wp2_with fail
         go_ret
         exact ⟨rfl,Bb⟩
       | true =>
         have HB:Hid (commL h y1=some t2):=HTC.out.1 rfl
         by_cases k1:k=1
         ·subst k1
          have HM:Hid (holdsC h (1,x1,y1,(i:Int),(j:Int))=(decide (x0=3)&&decide (y0=3)&&decide (f2 < t2))):=by show _=_;rw [hold_main h 1 x1 y1 i j f2 t2 x0 y0 x2 x3 y3 HA.out HB.out HFT.out HI.out HJ.out HX.out HY.out];simp
          by_cases kx:x0=3
          ·subst kx
           by_cases ky:y0=3
           ·subst ky
            by_cases lt:f2 < t2
            ·have lt2:(f2:Int) < (t2:Int):=by omega
             obtain rfl:R=true:=by rw [← HR.out,HM.out];rw [decide_eq_true lt];simp
             clear HM
             have g0:=EC.cell 0 _ rfl
             have g1:=EC.cell 1 _ rfl
             have g2:=EC.cell 2 _ rfl
             have u0:=XB.cell 0 _ rfl
             have u1:=XB.cell 1 _ rfl
             have u2:=XB.cell 2 _ rfl
             have u3:=XB.cell 3 _ rfl
             have z0:=YB.cell 0 _ rfl
             have z1:=YB.cell 1 _ rfl
             have z2:=YB.cell 2 _ rfl
             have z3:=YB.cell 3 _ rfl
             go_wp2_with fail
             refine (DF _ BC).mono ?_
             rintro ea wa ⟨rfl,ba⟩
             have Ba':=bel_trans BC ba
             have Ba:=Ba'.alloc Ba'.size (.cells #[.int .i64 f0,.int .i64 (f1:Int),.int .i64 (f2:Int),.bool true] 91)
             have E1:=(EC.below ba).alloc (.cells #[.int .i64 f0,.int .i64 (f1:Int),.int .i64 (f2:Int),.bool true] 91)
             have X1:=(XB.below ba).alloc (.cells #[.int .i64 f0,.int .i64 (f1:Int),.int .i64 (f2:Int),.bool true] 91)
             have Y1:=(YB.below ba).alloc (.cells #[.int .i64 f0,.int .i64 (f1:Int),.int .i64 (f2:Int),.bool true] 91)
             have F1:=SBox.new wa 91 #[.int .i64 f0,.int .i64 (f1:Int),.int .i64 (f2:Int),.bool true]
             clear g0 g1 g2 u0 u1 u2 u3 z0 z1 z2 z3
             have g2:=E1.cell 2 _ rfl
             go_wp2_with fail
             refine (DG _ Ba).mono ?_
             rintro eb wb ⟨rfl,bb'⟩
             have Bb':=bel_trans Ba bb'
             have Bb:=Bb'.alloc Bb'.size (.cells #[.int .i64 t0,.int .i64 (t1:Int),.int .i64 (t2:Int),.bool true] 91)
             have EC:=(E1.below bb').alloc (.cells #[.int .i64 t0,.int .i64 (t1:Int),.int .i64 (t2:Int),.bool true] 91)
             have XB:=(X1.below bb').alloc (.cells #[.int .i64 t0,.int .i64 (t1:Int),.int .i64 (t2:Int),.bool true] 91)
             have YB:=(Y1.below bb').alloc (.cells #[.int .i64 t0,.int .i64 (t1:Int),.int .i64 (t2:Int),.bool true] 91)
             have FB:=(F1.below bb').alloc (.cells #[.int .i64 t0,.int .i64 (t1:Int),.int .i64 (t2:Int),.bool true] 91)
             have TB:=SBox.new wb 91 #[.int .i64 t0,.int .i64 (t1:Int),.int .i64 (t2:Int),.bool true]
             clear g2 E1 X1 Y1 F1
             have g0:=EC.cell 0 _ rfl
             have g1:=EC.cell 1 _ rfl
             have g2:=EC.cell 2 _ rfl
             have u0:=XB.cell 0 _ rfl
             have u1:=XB.cell 1 _ rfl
             have u2:=XB.cell 2 _ rfl
             have u3:=XB.cell 3 _ rfl
             have z0:=YB.cell 0 _ rfl
             have z1:=YB.cell 1 _ rfl
             have z2:=YB.cell 2 _ rfl
             have z3:=YB.cell 3 _ rfl
             have v2:=FB.cell 2 _ rfl
             have v3:=FB.cell 3 _ rfl
             have o0:=TB.cell 0 _ rfl
             have o1:=TB.cell 1 _ rfl
             have o2:=TB.cell 2 _ rfl
             have o3:=TB.cell 3 _ rfl
             go_wp2_with fail
             go_ret
             exact ⟨rfl,Bb⟩
            ·have lt2:¬ (f2:Int) < (t2:Int):=by omega
             obtain rfl:R=false:=by rw [← HR.out,HM.out];rw [decide_eq_false lt];simp
             clear HM
             have g0:=EC.cell 0 _ rfl
             have g1:=EC.cell 1 _ rfl
             have g2:=EC.cell 2 _ rfl
             have u0:=XB.cell 0 _ rfl
             have u1:=XB.cell 1 _ rfl
             have u2:=XB.cell 2 _ rfl
             have u3:=XB.cell 3 _ rfl
             have z0:=YB.cell 0 _ rfl
             have z1:=YB.cell 1 _ rfl
             have z2:=YB.cell 2 _ rfl
             have z3:=YB.cell 3 _ rfl
             go_wp2_with fail
             refine (DF _ BC).mono ?_
             rintro ea wa ⟨rfl,ba⟩
             have Ba':=bel_trans BC ba
             have Ba:=Ba'.alloc Ba'.size (.cells #[.int .i64 f0,.int .i64 (f1:Int),.int .i64 (f2:Int),.bool true] 91)
             have E1:=(EC.below ba).alloc (.cells #[.int .i64 f0,.int .i64 (f1:Int),.int .i64 (f2:Int),.bool true] 91)
             have X1:=(XB.below ba).alloc (.cells #[.int .i64 f0,.int .i64 (f1:Int),.int .i64 (f2:Int),.bool true] 91)
             have Y1:=(YB.below ba).alloc (.cells #[.int .i64 f0,.int .i64 (f1:Int),.int .i64 (f2:Int),.bool true] 91)
             have F1:=SBox.new wa 91 #[.int .i64 f0,.int .i64 (f1:Int),.int .i64 (f2:Int),.bool true]
             clear g0 g1 g2 u0 u1 u2 u3 z0 z1 z2 z3
             have g2:=E1.cell 2 _ rfl
             go_wp2_with fail
             refine (DG _ Ba).mono ?_
             rintro eb wb ⟨rfl,bb'⟩
             have Bb':=bel_trans Ba bb'
             have Bb:=Bb'.alloc Bb'.size (.cells #[.int .i64 t0,.int .i64 (t1:Int),.int .i64 (t2:Int),.bool true] 91)
             have EC:=(E1.below bb').alloc (.cells #[.int .i64 t0,.int .i64 (t1:Int),.int .i64 (t2:Int),.bool true] 91)
             have XB:=(X1.below bb').alloc (.cells #[.int .i64 t0,.int .i64 (t1:Int),.int .i64 (t2:Int),.bool true] 91)
             have YB:=(Y1.below bb').alloc (.cells #[.int .i64 t0,.int .i64 (t1:Int),.int .i64 (t2:Int),.bool true] 91)
             have FB:=(F1.below bb').alloc (.cells #[.int .i64 t0,.int .i64 (t1:Int),.int .i64 (t2:Int),.bool true] 91)
             have TB:=SBox.new wb 91 #[.int .i64 t0,.int .i64 (t1:Int),.int .i64 (t2:Int),.bool true]
             clear g2 E1 X1 Y1 F1
             have g0:=EC.cell 0 _ rfl
             have g1:=EC.cell 1 _ rfl
             have g2:=EC.cell 2 _ rfl
             have u0:=XB.cell 0 _ rfl
             have u1:=XB.cell 1 _ rfl
             have u2:=XB.cell 2 _ rfl
             have u3:=XB.cell 3 _ rfl
             have z0:=YB.cell 0 _ rfl
             have z1:=YB.cell 1 _ rfl
             have z2:=YB.cell 2 _ rfl
             have z3:=YB.cell 3 _ rfl
             have v2:=FB.cell 2 _ rfl
             have v3:=FB.cell 3 _ rfl
             have o0:=TB.cell 0 _ rfl
             have o1:=TB.cell 1 _ rfl
             have o2:=TB.cell 2 _ rfl
             have o3:=TB.cell 3 _ rfl
             go_wp2_with fail
             go_ret
             exact ⟨rfl,Bb⟩
           ·have ky2:(y0==3)=false:=beq_eq_false_iff_ne.2 ky
            obtain rfl:R=false:=by rw [← HR.out,HM.out];rw [decide_eq_false ky];simp
            clear ky HM
            have g0:=EC.cell 0 _ rfl
            have g1:=EC.cell 1 _ rfl
            have g2:=EC.cell 2 _ rfl
            have u0:=XB.cell 0 _ rfl
            have u1:=XB.cell 1 _ rfl
            have u2:=XB.cell 2 _ rfl
            have u3:=XB.cell 3 _ rfl
            have z0:=YB.cell 0 _ rfl
            have z1:=YB.cell 1 _ rfl
            have z2:=YB.cell 2 _ rfl
            have z3:=YB.cell 3 _ rfl
            go_wp2_with fail
            refine (DF _ BC).mono ?_
            rintro ea wa ⟨rfl,ba⟩
            have Ba':=bel_trans BC ba
            have Ba:=Ba'.alloc Ba'.size (.cells #[.int .i64 f0,.int .i64 (f1:Int),.int .i64 (f2:Int),.bool true] 91)
            have E1:=(EC.below ba).alloc (.cells #[.int .i64 f0,.int .i64 (f1:Int),.int .i64 (f2:Int),.bool true] 91)
            have X1:=(XB.below ba).alloc (.cells #[.int .i64 f0,.int .i64 (f1:Int),.int .i64 (f2:Int),.bool true] 91)
            have Y1:=(YB.below ba).alloc (.cells #[.int .i64 f0,.int .i64 (f1:Int),.int .i64 (f2:Int),.bool true] 91)
            have F1:=SBox.new wa 91 #[.int .i64 f0,.int .i64 (f1:Int),.int .i64 (f2:Int),.bool true]
            clear g0 g1 g2 u0 u1 u2 u3 z0 z1 z2 z3
            have g2:=E1.cell 2 _ rfl
            go_wp2_with fail
            refine (DG _ Ba).mono ?_
            rintro eb wb ⟨rfl,bb'⟩
            have Bb':=bel_trans Ba bb'
            have Bb:=Bb'.alloc Bb'.size (.cells #[.int .i64 t0,.int .i64 (t1:Int),.int .i64 (t2:Int),.bool true] 91)
            have EC:=(E1.below bb').alloc (.cells #[.int .i64 t0,.int .i64 (t1:Int),.int .i64 (t2:Int),.bool true] 91)
            have XB:=(X1.below bb').alloc (.cells #[.int .i64 t0,.int .i64 (t1:Int),.int .i64 (t2:Int),.bool true] 91)
            have YB:=(Y1.below bb').alloc (.cells #[.int .i64 t0,.int .i64 (t1:Int),.int .i64 (t2:Int),.bool true] 91)
            have FB:=(F1.below bb').alloc (.cells #[.int .i64 t0,.int .i64 (t1:Int),.int .i64 (t2:Int),.bool true] 91)
            have TB:=SBox.new wb 91 #[.int .i64 t0,.int .i64 (t1:Int),.int .i64 (t2:Int),.bool true]
            clear g2 E1 X1 Y1 F1
            have g0:=EC.cell 0 _ rfl
            have g1:=EC.cell 1 _ rfl
            have g2:=EC.cell 2 _ rfl
            have u0:=XB.cell 0 _ rfl
            have u1:=XB.cell 1 _ rfl
            have u2:=XB.cell 2 _ rfl
            have u3:=XB.cell 3 _ rfl
            have z0:=YB.cell 0 _ rfl
            have z1:=YB.cell 1 _ rfl
            have z2:=YB.cell 2 _ rfl
            have z3:=YB.cell 3 _ rfl
            have v2:=FB.cell 2 _ rfl
            have v3:=FB.cell 3 _ rfl
            have o0:=TB.cell 0 _ rfl
            have o1:=TB.cell 1 _ rfl
            have o2:=TB.cell 2 _ rfl
            have o3:=TB.cell 3 _ rfl
            go_wp2_with fail
            go_ret
            exact ⟨rfl,Bb⟩
          ·have kx2:(x0==3)=false:=beq_eq_false_iff_ne.2 kx
           obtain rfl:R=false:=by rw [← HR.out,HM.out];rw [decide_eq_false kx];simp
           clear kx HM
           have g0:=EC.cell 0 _ rfl
           have g1:=EC.cell 1 _ rfl
           have g2:=EC.cell 2 _ rfl
           have u0:=XB.cell 0 _ rfl
           have u1:=XB.cell 1 _ rfl
           have u2:=XB.cell 2 _ rfl
           have u3:=XB.cell 3 _ rfl
           have z0:=YB.cell 0 _ rfl
           have z1:=YB.cell 1 _ rfl
           have z2:=YB.cell 2 _ rfl
           have z3:=YB.cell 3 _ rfl
           go_wp2_with fail
           refine (DF _ BC).mono ?_
           rintro ea wa ⟨rfl,ba⟩
           have Ba':=bel_trans BC ba
           have Ba:=Ba'.alloc Ba'.size (.cells #[.int .i64 f0,.int .i64 (f1:Int),.int .i64 (f2:Int),.bool true] 91)
           have E1:=(EC.below ba).alloc (.cells #[.int .i64 f0,.int .i64 (f1:Int),.int .i64 (f2:Int),.bool true] 91)
           have X1:=(XB.below ba).alloc (.cells #[.int .i64 f0,.int .i64 (f1:Int),.int .i64 (f2:Int),.bool true] 91)
           have Y1:=(YB.below ba).alloc (.cells #[.int .i64 f0,.int .i64 (f1:Int),.int .i64 (f2:Int),.bool true] 91)
           have F1:=SBox.new wa 91 #[.int .i64 f0,.int .i64 (f1:Int),.int .i64 (f2:Int),.bool true]
           clear g0 g1 g2 u0 u1 u2 u3 z0 z1 z2 z3
           have g2:=E1.cell 2 _ rfl
           go_wp2_with fail
           refine (DG _ Ba).mono ?_
           rintro eb wb ⟨rfl,bb'⟩
           have Bb':=bel_trans Ba bb'
           have Bb:=Bb'.alloc Bb'.size (.cells #[.int .i64 t0,.int .i64 (t1:Int),.int .i64 (t2:Int),.bool true] 91)
           have EC:=(E1.below bb').alloc (.cells #[.int .i64 t0,.int .i64 (t1:Int),.int .i64 (t2:Int),.bool true] 91)
           have XB:=(X1.below bb').alloc (.cells #[.int .i64 t0,.int .i64 (t1:Int),.int .i64 (t2:Int),.bool true] 91)
           have YB:=(Y1.below bb').alloc (.cells #[.int .i64 t0,.int .i64 (t1:Int),.int .i64 (t2:Int),.bool true] 91)
           have FB:=(F1.below bb').alloc (.cells #[.int .i64 t0,.int .i64 (t1:Int),.int .i64 (t2:Int),.bool true] 91)
           have TB:=SBox.new wb 91 #[.int .i64 t0,.int .i64 (t1:Int),.int .i64 (t2:Int),.bool true]
           clear g2 E1 X1 Y1 F1
           have g0:=EC.cell 0 _ rfl
           have g1:=EC.cell 1 _ rfl
           have g2:=EC.cell 2 _ rfl
           have u0:=XB.cell 0 _ rfl
           have u1:=XB.cell 1 _ rfl
           have u2:=XB.cell 2 _ rfl
           have u3:=XB.cell 3 _ rfl
           have z0:=YB.cell 0 _ rfl
           have z1:=YB.cell 1 _ rfl
           have z2:=YB.cell 2 _ rfl
           have z3:=YB.cell 3 _ rfl
           have v2:=FB.cell 2 _ rfl
           have v3:=FB.cell 3 _ rfl
           have o0:=TB.cell 0 _ rfl
           have o1:=TB.cell 1 _ rfl
           have o2:=TB.cell 2 _ rfl
           have o3:=TB.cell 3 _ rfl
           go_wp2_with fail
           go_ret
           exact ⟨rfl,Bb⟩
         ·by_cases k2:k=2
          ·subst k2
           have HM:Hid (holdsC h (2,x1,y1,(i:Int),(j:Int))=(decide (x0=3)&&decide (y0=2)&&decide (x3=y3))):=by show _=_;rw [hold_main h 2 x1 y1 i j f2 t2 x0 y0 x2 x3 y3 HA.out HB.out HFT.out HI.out HJ.out HX.out HY.out];simp
           by_cases kx:x0=3
           ·subst kx
            by_cases ky:y0=2
            ·subst ky
             by_cases sv:x3=y3
             ·have HSV:Hid (x3=y3):=sv
              obtain rfl:R=true:=by rw [← HR.out,HM.out];rw [decide_eq_true sv];simp
              subst sv
              clear HM
              have g0:=EC.cell 0 _ rfl
              have g1:=EC.cell 1 _ rfl
              have g2:=EC.cell 2 _ rfl
              have u0:=XB.cell 0 _ rfl
              have u1:=XB.cell 1 _ rfl
              have u2:=XB.cell 2 _ rfl
              have u3:=XB.cell 3 _ rfl
              have z0:=YB.cell 0 _ rfl
              have z1:=YB.cell 1 _ rfl
              have z2:=YB.cell 2 _ rfl
              have z3:=YB.cell 3 _ rfl
              go_wp2_with fail
              refine (DF _ BC).mono ?_
              rintro ea wa ⟨rfl,ba⟩
              have Ba':=bel_trans BC ba
              have Ba:=Ba'.alloc Ba'.size (.cells #[.int .i64 f0,.int .i64 (f1:Int),.int .i64 (f2:Int),.bool true] 91)
              have E1:=(EC.below ba).alloc (.cells #[.int .i64 f0,.int .i64 (f1:Int),.int .i64 (f2:Int),.bool true] 91)
              have X1:=(XB.below ba).alloc (.cells #[.int .i64 f0,.int .i64 (f1:Int),.int .i64 (f2:Int),.bool true] 91)
              have Y1:=(YB.below ba).alloc (.cells #[.int .i64 f0,.int .i64 (f1:Int),.int .i64 (f2:Int),.bool true] 91)
              have F1:=SBox.new wa 91 #[.int .i64 f0,.int .i64 (f1:Int),.int .i64 (f2:Int),.bool true]
              clear g0 g1 g2 u0 u1 u2 u3 z0 z1 z2 z3
              have g2:=E1.cell 2 _ rfl
              go_wp2_with fail
              refine (DG _ Ba).mono ?_
              rintro eb wb ⟨rfl,bb'⟩
              have Bb':=bel_trans Ba bb'
              have Bb:=Bb'.alloc Bb'.size (.cells #[.int .i64 t0,.int .i64 (t1:Int),.int .i64 (t2:Int),.bool true] 91)
              have EC:=(E1.below bb').alloc (.cells #[.int .i64 t0,.int .i64 (t1:Int),.int .i64 (t2:Int),.bool true] 91)
              have XB:=(X1.below bb').alloc (.cells #[.int .i64 t0,.int .i64 (t1:Int),.int .i64 (t2:Int),.bool true] 91)
              have YB:=(Y1.below bb').alloc (.cells #[.int .i64 t0,.int .i64 (t1:Int),.int .i64 (t2:Int),.bool true] 91)
              have FB:=(F1.below bb').alloc (.cells #[.int .i64 t0,.int .i64 (t1:Int),.int .i64 (t2:Int),.bool true] 91)
              have TB:=SBox.new wb 91 #[.int .i64 t0,.int .i64 (t1:Int),.int .i64 (t2:Int),.bool true]
              clear g2 E1 X1 Y1 F1
              have g0:=EC.cell 0 _ rfl
              have g1:=EC.cell 1 _ rfl
              have g2:=EC.cell 2 _ rfl
              have u0:=XB.cell 0 _ rfl
              have u1:=XB.cell 1 _ rfl
              have u2:=XB.cell 2 _ rfl
              have u3:=XB.cell 3 _ rfl
              have z0:=YB.cell 0 _ rfl
              have z1:=YB.cell 1 _ rfl
              have z2:=YB.cell 2 _ rfl
              have z3:=YB.cell 3 _ rfl
              have v2:=FB.cell 2 _ rfl
              have v3:=FB.cell 3 _ rfl
              have o0:=TB.cell 0 _ rfl
              have o1:=TB.cell 1 _ rfl
              have o2:=TB.cell 2 _ rfl
              have o3:=TB.cell 3 _ rfl
              go_wp2_with fail
              go_ret
              exact ⟨rfl,Bb⟩
             ·have sv2:(x3==y3)=false:=beq_eq_false_iff_ne.2 sv
              obtain rfl:R=false:=by rw [← HR.out,HM.out];rw [decide_eq_false sv];simp
              clear HM
              have g0:=EC.cell 0 _ rfl
              have g1:=EC.cell 1 _ rfl
              have g2:=EC.cell 2 _ rfl
              have u0:=XB.cell 0 _ rfl
              have u1:=XB.cell 1 _ rfl
              have u2:=XB.cell 2 _ rfl
              have u3:=XB.cell 3 _ rfl
              have z0:=YB.cell 0 _ rfl
              have z1:=YB.cell 1 _ rfl
              have z2:=YB.cell 2 _ rfl
              have z3:=YB.cell 3 _ rfl
              go_wp2_with fail
              refine (DF _ BC).mono ?_
              rintro ea wa ⟨rfl,ba⟩
              have Ba':=bel_trans BC ba
              have Ba:=Ba'.alloc Ba'.size (.cells #[.int .i64 f0,.int .i64 (f1:Int),.int .i64 (f2:Int),.bool true] 91)
              have E1:=(EC.below ba).alloc (.cells #[.int .i64 f0,.int .i64 (f1:Int),.int .i64 (f2:Int),.bool true] 91)
              have X1:=(XB.below ba).alloc (.cells #[.int .i64 f0,.int .i64 (f1:Int),.int .i64 (f2:Int),.bool true] 91)
              have Y1:=(YB.below ba).alloc (.cells #[.int .i64 f0,.int .i64 (f1:Int),.int .i64 (f2:Int),.bool true] 91)
              have F1:=SBox.new wa 91 #[.int .i64 f0,.int .i64 (f1:Int),.int .i64 (f2:Int),.bool true]
              clear g0 g1 g2 u0 u1 u2 u3 z0 z1 z2 z3
              have g2:=E1.cell 2 _ rfl
              go_wp2_with fail
              refine (DG _ Ba).mono ?_
              rintro eb wb ⟨rfl,bb'⟩
              have Bb':=bel_trans Ba bb'
              have Bb:=Bb'.alloc Bb'.size (.cells #[.int .i64 t0,.int .i64 (t1:Int),.int .i64 (t2:Int),.bool true] 91)
              have EC:=(E1.below bb').alloc (.cells #[.int .i64 t0,.int .i64 (t1:Int),.int .i64 (t2:Int),.bool true] 91)
              have XB:=(X1.below bb').alloc (.cells #[.int .i64 t0,.int .i64 (t1:Int),.int .i64 (t2:Int),.bool true] 91)
              have YB:=(Y1.below bb').alloc (.cells #[.int .i64 t0,.int .i64 (t1:Int),.int .i64 (t2:Int),.bool true] 91)
              have FB:=(F1.below bb').alloc (.cells #[.int .i64 t0,.int .i64 (t1:Int),.int .i64 (t2:Int),.bool true] 91)
              have TB:=SBox.new wb 91 #[.int .i64 t0,.int .i64 (t1:Int),.int .i64 (t2:Int),.bool true]
              clear g2 E1 X1 Y1 F1
              have g0:=EC.cell 0 _ rfl
              have g1:=EC.cell 1 _ rfl
              have g2:=EC.cell 2 _ rfl
              have u0:=XB.cell 0 _ rfl
              have u1:=XB.cell 1 _ rfl
              have u2:=XB.cell 2 _ rfl
              have u3:=XB.cell 3 _ rfl
              have z0:=YB.cell 0 _ rfl
              have z1:=YB.cell 1 _ rfl
              have z2:=YB.cell 2 _ rfl
              have z3:=YB.cell 3 _ rfl
              have v2:=FB.cell 2 _ rfl
              have v3:=FB.cell 3 _ rfl
              have o0:=TB.cell 0 _ rfl
              have o1:=TB.cell 1 _ rfl
              have o2:=TB.cell 2 _ rfl
              have o3:=TB.cell 3 _ rfl
              go_wp2_with fail
              go_ret
              exact ⟨rfl,Bb⟩
            ·have ky2:(y0==2)=false:=beq_eq_false_iff_ne.2 ky
             obtain rfl:R=false:=by rw [← HR.out,HM.out];rw [decide_eq_false ky];simp
             clear ky HM
             have g0:=EC.cell 0 _ rfl
             have g1:=EC.cell 1 _ rfl
             have g2:=EC.cell 2 _ rfl
             have u0:=XB.cell 0 _ rfl
             have u1:=XB.cell 1 _ rfl
             have u2:=XB.cell 2 _ rfl
             have u3:=XB.cell 3 _ rfl
             have z0:=YB.cell 0 _ rfl
             have z1:=YB.cell 1 _ rfl
             have z2:=YB.cell 2 _ rfl
             have z3:=YB.cell 3 _ rfl
             go_wp2_with fail
             refine (DF _ BC).mono ?_
             rintro ea wa ⟨rfl,ba⟩
             have Ba':=bel_trans BC ba
             have Ba:=Ba'.alloc Ba'.size (.cells #[.int .i64 f0,.int .i64 (f1:Int),.int .i64 (f2:Int),.bool true] 91)
             have E1:=(EC.below ba).alloc (.cells #[.int .i64 f0,.int .i64 (f1:Int),.int .i64 (f2:Int),.bool true] 91)
             have X1:=(XB.below ba).alloc (.cells #[.int .i64 f0,.int .i64 (f1:Int),.int .i64 (f2:Int),.bool true] 91)
             have Y1:=(YB.below ba).alloc (.cells #[.int .i64 f0,.int .i64 (f1:Int),.int .i64 (f2:Int),.bool true] 91)
             have F1:=SBox.new wa 91 #[.int .i64 f0,.int .i64 (f1:Int),.int .i64 (f2:Int),.bool true]
             clear g0 g1 g2 u0 u1 u2 u3 z0 z1 z2 z3
             have g2:=E1.cell 2 _ rfl
             go_wp2_with fail
             refine (DG _ Ba).mono ?_
             rintro eb wb ⟨rfl,bb'⟩
             have Bb':=bel_trans Ba bb'
             have Bb:=Bb'.alloc Bb'.size (.cells #[.int .i64 t0,.int .i64 (t1:Int),.int .i64 (t2:Int),.bool true] 91)
             have EC:=(E1.below bb').alloc (.cells #[.int .i64 t0,.int .i64 (t1:Int),.int .i64 (t2:Int),.bool true] 91)
             have XB:=(X1.below bb').alloc (.cells #[.int .i64 t0,.int .i64 (t1:Int),.int .i64 (t2:Int),.bool true] 91)
             have YB:=(Y1.below bb').alloc (.cells #[.int .i64 t0,.int .i64 (t1:Int),.int .i64 (t2:Int),.bool true] 91)
             have FB:=(F1.below bb').alloc (.cells #[.int .i64 t0,.int .i64 (t1:Int),.int .i64 (t2:Int),.bool true] 91)
             have TB:=SBox.new wb 91 #[.int .i64 t0,.int .i64 (t1:Int),.int .i64 (t2:Int),.bool true]
             clear g2 E1 X1 Y1 F1
             have g0:=EC.cell 0 _ rfl
             have g1:=EC.cell 1 _ rfl
             have g2:=EC.cell 2 _ rfl
             have u0:=XB.cell 0 _ rfl
             have u1:=XB.cell 1 _ rfl
             have u2:=XB.cell 2 _ rfl
             have u3:=XB.cell 3 _ rfl
             have z0:=YB.cell 0 _ rfl
             have z1:=YB.cell 1 _ rfl
             have z2:=YB.cell 2 _ rfl
             have z3:=YB.cell 3 _ rfl
             have v2:=FB.cell 2 _ rfl
             have v3:=FB.cell 3 _ rfl
             have o0:=TB.cell 0 _ rfl
             have o1:=TB.cell 1 _ rfl
             have o2:=TB.cell 2 _ rfl
             have o3:=TB.cell 3 _ rfl
             go_wp2_with fail
             go_ret
             exact ⟨rfl,Bb⟩
           ·have kx2:(x0==3)=false:=beq_eq_false_iff_ne.2 kx
            obtain rfl:R=false:=by rw [← HR.out,HM.out];rw [decide_eq_false kx];simp
            clear kx HM
            have g0:=EC.cell 0 _ rfl
            have g1:=EC.cell 1 _ rfl
            have g2:=EC.cell 2 _ rfl
            have u0:=XB.cell 0 _ rfl
            have u1:=XB.cell 1 _ rfl
            have u2:=XB.cell 2 _ rfl
            have u3:=XB.cell 3 _ rfl
            have z0:=YB.cell 0 _ rfl
            have z1:=YB.cell 1 _ rfl
            have z2:=YB.cell 2 _ rfl
            have z3:=YB.cell 3 _ rfl
            go_wp2_with fail
            refine (DF _ BC).mono ?_
            rintro ea wa ⟨rfl,ba⟩
            have Ba':=bel_trans BC ba
            have Ba:=Ba'.alloc Ba'.size (.cells #[.int .i64 f0,.int .i64 (f1:Int),.int .i64 (f2:Int),.bool true] 91)
            have E1:=(EC.below ba).alloc (.cells #[.int .i64 f0,.int .i64 (f1:Int),.int .i64 (f2:Int),.bool true] 91)
            have X1:=(XB.below ba).alloc (.cells #[.int .i64 f0,.int .i64 (f1:Int),.int .i64 (f2:Int),.bool true] 91)
            have Y1:=(YB.below ba).alloc (.cells #[.int .i64 f0,.int .i64 (f1:Int),.int .i64 (f2:Int),.bool true] 91)
            have F1:=SBox.new wa 91 #[.int .i64 f0,.int .i64 (f1:Int),.int .i64 (f2:Int),.bool true]
            clear g0 g1 g2 u0 u1 u2 u3 z0 z1 z2 z3
            have g2:=E1.cell 2 _ rfl
            go_wp2_with fail
            refine (DG _ Ba).mono ?_
            rintro eb wb ⟨rfl,bb'⟩
            have Bb':=bel_trans Ba bb'
            have Bb:=Bb'.alloc Bb'.size (.cells #[.int .i64 t0,.int .i64 (t1:Int),.int .i64 (t2:Int),.bool true] 91)
            have EC:=(E1.below bb').alloc (.cells #[.int .i64 t0,.int .i64 (t1:Int),.int .i64 (t2:Int),.bool true] 91)
            have XB:=(X1.below bb').alloc (.cells #[.int .i64 t0,.int .i64 (t1:Int),.int .i64 (t2:Int),.bool true] 91)
            have YB:=(Y1.below bb').alloc (.cells #[.int .i64 t0,.int .i64 (t1:Int),.int .i64 (t2:Int),.bool true] 91)
            have FB:=(F1.below bb').alloc (.cells #[.int .i64 t0,.int .i64 (t1:Int),.int .i64 (t2:Int),.bool true] 91)
            have TB:=SBox.new wb 91 #[.int .i64 t0,.int .i64 (t1:Int),.int .i64 (t2:Int),.bool true]
            clear g2 E1 X1 Y1 F1
            have g0:=EC.cell 0 _ rfl
            have g1:=EC.cell 1 _ rfl
            have g2:=EC.cell 2 _ rfl
            have u0:=XB.cell 0 _ rfl
            have u1:=XB.cell 1 _ rfl
            have u2:=XB.cell 2 _ rfl
            have u3:=XB.cell 3 _ rfl
            have z0:=YB.cell 0 _ rfl
            have z1:=YB.cell 1 _ rfl
            have z2:=YB.cell 2 _ rfl
            have z3:=YB.cell 3 _ rfl
            have v2:=FB.cell 2 _ rfl
            have v3:=FB.cell 3 _ rfl
            have o0:=TB.cell 0 _ rfl
            have o1:=TB.cell 1 _ rfl
            have o2:=TB.cell 2 _ rfl
            have o3:=TB.cell 3 _ rfl
            go_wp2_with fail
            go_ret
            exact ⟨rfl,Bb⟩
          ·by_cases k3:k=3
           ·subst k3
            have HM:Hid (holdsC h (3,x1,y1,(i:Int),(j:Int))=(decide (x0=2)&&decide (y0=3)&&aheadQ h x2 x3 t2)):=by show _=_;rw [hold_main h 3 x1 y1 i j f2 t2 x0 y0 x2 x3 y3 HA.out HB.out HFT.out HI.out HJ.out HX.out HY.out];simp
            by_cases kx:x0=2
            ·subst kx
             by_cases ky:y0=3
             ·subst ky
              obtain rfl:R=aheadQ h x2 x3 t2:=by rw [← HR.out,HM.out];simp
              clear HM
              have g0:=EC.cell 0 _ rfl
              have g1:=EC.cell 1 _ rfl
              have g2:=EC.cell 2 _ rfl
              have u0:=XB.cell 0 _ rfl
              have u1:=XB.cell 1 _ rfl
              have u2:=XB.cell 2 _ rfl
              have u3:=XB.cell 3 _ rfl
              have z0:=YB.cell 0 _ rfl
              have z1:=YB.cell 1 _ rfl
              have z2:=YB.cell 2 _ rfl
              have z3:=YB.cell 3 _ rfl
              go_wp2_with fail
              refine (DF _ BC).mono ?_
              rintro ea wa ⟨rfl,ba⟩
              have Ba':=bel_trans BC ba
              have Ba:=Ba'.alloc Ba'.size (.cells #[.int .i64 f0,.int .i64 (f1:Int),.int .i64 (f2:Int),.bool true] 91)
              have E1:=(EC.below ba).alloc (.cells #[.int .i64 f0,.int .i64 (f1:Int),.int .i64 (f2:Int),.bool true] 91)
              have X1:=(XB.below ba).alloc (.cells #[.int .i64 f0,.int .i64 (f1:Int),.int .i64 (f2:Int),.bool true] 91)
              have Y1:=(YB.below ba).alloc (.cells #[.int .i64 f0,.int .i64 (f1:Int),.int .i64 (f2:Int),.bool true] 91)
              have F1:=SBox.new wa 91 #[.int .i64 f0,.int .i64 (f1:Int),.int .i64 (f2:Int),.bool true]
              clear g0 g1 g2 u0 u1 u2 u3 z0 z1 z2 z3
              have g2:=E1.cell 2 _ rfl
              go_wp2_with fail
              refine (DG _ Ba).mono ?_
              rintro eb wb ⟨rfl,bb'⟩
              have Bb':=bel_trans Ba bb'
              have Bb:=Bb'.alloc Bb'.size (.cells #[.int .i64 t0,.int .i64 (t1:Int),.int .i64 (t2:Int),.bool true] 91)
              have EC:=(E1.below bb').alloc (.cells #[.int .i64 t0,.int .i64 (t1:Int),.int .i64 (t2:Int),.bool true] 91)
              have XB:=(X1.below bb').alloc (.cells #[.int .i64 t0,.int .i64 (t1:Int),.int .i64 (t2:Int),.bool true] 91)
              have YB:=(Y1.below bb').alloc (.cells #[.int .i64 t0,.int .i64 (t1:Int),.int .i64 (t2:Int),.bool true] 91)
              have FB:=(F1.below bb').alloc (.cells #[.int .i64 t0,.int .i64 (t1:Int),.int .i64 (t2:Int),.bool true] 91)
              have TB:=SBox.new wb 91 #[.int .i64 t0,.int .i64 (t1:Int),.int .i64 (t2:Int),.bool true]
              clear g2 E1 X1 Y1 F1
              have g0:=EC.cell 0 _ rfl
              have g1:=EC.cell 1 _ rfl
              have g2:=EC.cell 2 _ rfl
              have u0:=XB.cell 0 _ rfl
              have u1:=XB.cell 1 _ rfl
              have u2:=XB.cell 2 _ rfl
              have u3:=XB.cell 3 _ rfl
              have z0:=YB.cell 0 _ rfl
              have z1:=YB.cell 1 _ rfl
              have z2:=YB.cell 2 _ rfl
              have z3:=YB.cell 3 _ rfl
              have v2:=FB.cell 2 _ rfl
              have v3:=FB.cell 3 _ rfl
              have o0:=TB.cell 0 _ rfl
              have o1:=TB.cell 1 _ rfl
              have o2:=TB.cell 2 _ rfl
              have o3:=TB.cell 3 _ rfl
              go_wp2_with fail
              refine (DA _ Bb _ _ _ _ _ _ _ _).mono ?_
              rintro ec wc' ⟨rfl,bc⟩
              go_wp2_with fail
              go_ret
              exact ⟨rfl,bel_trans Bb bc⟩
             ·have ky2:(y0==3)=false:=beq_eq_false_iff_ne.2 ky
              obtain rfl:R=false:=by rw [← HR.out,HM.out];rw [decide_eq_false ky];simp
              clear ky HM
              have g0:=EC.cell 0 _ rfl
              have g1:=EC.cell 1 _ rfl
              have g2:=EC.cell 2 _ rfl
              have u0:=XB.cell 0 _ rfl
              have u1:=XB.cell 1 _ rfl
              have u2:=XB.cell 2 _ rfl
              have u3:=XB.cell 3 _ rfl
              have z0:=YB.cell 0 _ rfl
              have z1:=YB.cell 1 _ rfl
              have z2:=YB.cell 2 _ rfl
              have z3:=YB.cell 3 _ rfl
              go_wp2_with fail
              refine (DF _ BC).mono ?_
              rintro ea wa ⟨rfl,ba⟩
              have Ba':=bel_trans BC ba
              have Ba:=Ba'.alloc Ba'.size (.cells #[.int .i64 f0,.int .i64 (f1:Int),.int .i64 (f2:Int),.bool true] 91)
              have E1:=(EC.below ba).alloc (.cells #[.int .i64 f0,.int .i64 (f1:Int),.int .i64 (f2:Int),.bool true] 91)
              have X1:=(XB.below ba).alloc (.cells #[.int .i64 f0,.int .i64 (f1:Int),.int .i64 (f2:Int),.bool true] 91)
              have Y1:=(YB.below ba).alloc (.cells #[.int .i64 f0,.int .i64 (f1:Int),.int .i64 (f2:Int),.bool true] 91)
              have F1:=SBox.new wa 91 #[.int .i64 f0,.int .i64 (f1:Int),.int .i64 (f2:Int),.bool true]
              clear g0 g1 g2 u0 u1 u2 u3 z0 z1 z2 z3
              have g2:=E1.cell 2 _ rfl
              go_wp2_with fail
              refine (DG _ Ba).mono ?_
              rintro eb wb ⟨rfl,bb'⟩
              have Bb':=bel_trans Ba bb'
              have Bb:=Bb'.alloc Bb'.size (.cells #[.int .i64 t0,.int .i64 (t1:Int),.int .i64 (t2:Int),.bool true] 91)
              have EC:=(E1.below bb').alloc (.cells #[.int .i64 t0,.int .i64 (t1:Int),.int .i64 (t2:Int),.bool true] 91)
              have XB:=(X1.below bb').alloc (.cells #[.int .i64 t0,.int .i64 (t1:Int),.int .i64 (t2:Int),.bool true] 91)
              have YB:=(Y1.below bb').alloc (.cells #[.int .i64 t0,.int .i64 (t1:Int),.int .i64 (t2:Int),.bool true] 91)
              have FB:=(F1.below bb').alloc (.cells #[.int .i64 t0,.int .i64 (t1:Int),.int .i64 (t2:Int),.bool true] 91)
              have TB:=SBox.new wb 91 #[.int .i64 t0,.int .i64 (t1:Int),.int .i64 (t2:Int),.bool true]
              clear g2 E1 X1 Y1 F1
              have g0:=EC.cell 0 _ rfl
              have g1:=EC.cell 1 _ rfl
              have g2:=EC.cell 2 _ rfl
              have u0:=XB.cell 0 _ rfl
              have u1:=XB.cell 1 _ rfl
              have u2:=XB.cell 2 _ rfl
              have u3:=XB.cell 3 _ rfl
              have z0:=YB.cell 0 _ rfl
              have z1:=YB.cell 1 _ rfl
              have z2:=YB.cell 2 _ rfl
              have z3:=YB.cell 3 _ rfl
              have v2:=FB.cell 2 _ rfl
              have v3:=FB.cell 3 _ rfl
              have o0:=TB.cell 0 _ rfl
              have o1:=TB.cell 1 _ rfl
              have o2:=TB.cell 2 _ rfl
              have o3:=TB.cell 3 _ rfl
              go_wp2_with fail
              go_ret
              exact ⟨rfl,Bb⟩
            ·have kx2:(x0==2)=false:=beq_eq_false_iff_ne.2 kx
             obtain rfl:R=false:=by rw [← HR.out,HM.out];rw [decide_eq_false kx];simp
             clear kx HM
             have g0:=EC.cell 0 _ rfl
             have g1:=EC.cell 1 _ rfl
             have g2:=EC.cell 2 _ rfl
             have u0:=XB.cell 0 _ rfl
             have u1:=XB.cell 1 _ rfl
             have u2:=XB.cell 2 _ rfl
             have u3:=XB.cell 3 _ rfl
             have z0:=YB.cell 0 _ rfl
             have z1:=YB.cell 1 _ rfl
             have z2:=YB.cell 2 _ rfl
             have z3:=YB.cell 3 _ rfl
             go_wp2_with fail
             refine (DF _ BC).mono ?_
             rintro ea wa ⟨rfl,ba⟩
             have Ba':=bel_trans BC ba
             have Ba:=Ba'.alloc Ba'.size (.cells #[.int .i64 f0,.int .i64 (f1:Int),.int .i64 (f2:Int),.bool true] 91)
             have E1:=(EC.below ba).alloc (.cells #[.int .i64 f0,.int .i64 (f1:Int),.int .i64 (f2:Int),.bool true] 91)
             have X1:=(XB.below ba).alloc (.cells #[.int .i64 f0,.int .i64 (f1:Int),.int .i64 (f2:Int),.bool true] 91)
             have Y1:=(YB.below ba).alloc (.cells #[.int .i64 f0,.int .i64 (f1:Int),.int .i64 (f2:Int),.bool true] 91)
             have F1:=SBox.new wa 91 #[.int .i64 f0,.int .i64 (f1:Int),.int .i64 (f2:Int),.bool true]
             clear g0 g1 g2 u0 u1 u2 u3 z0 z1 z2 z3
             have g2:=E1.cell 2 _ rfl
             go_wp2_with fail
             refine (DG _ Ba).mono ?_
             rintro eb wb ⟨rfl,bb'⟩
             have Bb':=bel_trans Ba bb'
             have Bb:=Bb'.alloc Bb'.size (.cells #[.int .i64 t0,.int .i64 (t1:Int),.int .i64 (t2:Int),.bool true] 91)
             have EC:=(E1.below bb').alloc (.cells #[.int .i64 t0,.int .i64 (t1:Int),.int .i64 (t2:Int),.bool true] 91)
             have XB:=(X1.below bb').alloc (.cells #[.int .i64 t0,.int .i64 (t1:Int),.int .i64 (t2:Int),.bool true] 91)
             have YB:=(Y1.below bb').alloc (.cells #[.int .i64 t0,.int .i64 (t1:Int),.int .i64 (t2:Int),.bool true] 91)
             have FB:=(F1.below bb').alloc (.cells #[.int .i64 t0,.int .i64 (t1:Int),.int .i64 (t2:Int),.bool true] 91)
             have TB:=SBox.new wb 91 #[.int .i64 t0,.int .i64 (t1:Int),.int .i64 (t2:Int),.bool true]
             clear g2 E1 X1 Y1 F1
             have g0:=EC.cell 0 _ rfl
             have g1:=EC.cell 1 _ rfl
             have g2:=EC.cell 2 _ rfl
             have u0:=XB.cell 0 _ rfl
             have u1:=XB.cell 1 _ rfl
             have u2:=XB.cell 2 _ rfl
             have u3:=XB.cell 3 _ rfl
             have z0:=YB.cell 0 _ rfl
             have z1:=YB.cell 1 _ rfl
             have z2:=YB.cell 2 _ rfl
             have z3:=YB.cell 3 _ rfl
             have v2:=FB.cell 2 _ rfl
             have v3:=FB.cell 3 _ rfl
             have o0:=TB.cell 0 _ rfl
             have o1:=TB.cell 1 _ rfl
             have o2:=TB.cell 2 _ rfl
             have o3:=TB.cell 3 _ rfl
             go_wp2_with fail
             go_ret
             exact ⟨rfl,Bb⟩
           ·
            have n1:(k==1)=false:=beq_eq_false_iff_ne.2 k1
            have n2:(k==2)=false:=beq_eq_false_iff_ne.2 k2
            have n3:(k==3)=false:=beq_eq_false_iff_ne.2 k3
            obtain rfl:R=false:=by rw [← HR.out,hold_main h k x1 y1 i j f2 t2 x0 y0 x2 x3 y3 HA.out HB.out HFT.out HI.out HJ.out HX.out HY.out,if_neg k1,if_neg k2,if_neg k3]
            clear k1 k2 k3
            have g0:=EC.cell 0 _ rfl
            have g1:=EC.cell 1 _ rfl
            have g2:=EC.cell 2 _ rfl
            have u0:=XB.cell 0 _ rfl
            have u1:=XB.cell 1 _ rfl
            have u2:=XB.cell 2 _ rfl
            have u3:=XB.cell 3 _ rfl
            have z0:=YB.cell 0 _ rfl
            have z1:=YB.cell 1 _ rfl
            have z2:=YB.cell 2 _ rfl
            have z3:=YB.cell 3 _ rfl
            go_wp2_with fail
            refine (DF _ BC).mono ?_
            rintro ea wa ⟨rfl,ba⟩
            have Ba':=bel_trans BC ba
            have Ba:=Ba'.alloc Ba'.size (.cells #[.int .i64 f0,.int .i64 (f1:Int),.int .i64 (f2:Int),.bool true] 91)
            have E1:=(EC.below ba).alloc (.cells #[.int .i64 f0,.int .i64 (f1:Int),.int .i64 (f2:Int),.bool true] 91)
            have X1:=(XB.below ba).alloc (.cells #[.int .i64 f0,.int .i64 (f1:Int),.int .i64 (f2:Int),.bool true] 91)
            have Y1:=(YB.below ba).alloc (.cells #[.int .i64 f0,.int .i64 (f1:Int),.int .i64 (f2:Int),.bool true] 91)
            have F1:=SBox.new wa 91 #[.int .i64 f0,.int .i64 (f1:Int),.int .i64 (f2:Int),.bool true]
            clear g0 g1 g2 u0 u1 u2 u3 z0 z1 z2 z3
            have g2:=E1.cell 2 _ rfl
            go_wp2_with fail
            refine (DG _ Ba).mono ?_
            rintro eb wb ⟨rfl,bb'⟩
            have Bb':=bel_trans Ba bb'
            have Bb:=Bb'.alloc Bb'.size (.cells #[.int .i64 t0,.int .i64 (t1:Int),.int .i64 (t2:Int),.bool true] 91)
            have EC:=(E1.below bb').alloc (.cells #[.int .i64 t0,.int .i64 (t1:Int),.int .i64 (t2:Int),.bool true] 91)
            have XB:=(X1.below bb').alloc (.cells #[.int .i64 t0,.int .i64 (t1:Int),.int .i64 (t2:Int),.bool true] 91)
            have YB:=(Y1.below bb').alloc (.cells #[.int .i64 t0,.int .i64 (t1:Int),.int .i64 (t2:Int),.bool true] 91)
            have FB:=(F1.below bb').alloc (.cells #[.int .i64 t0,.int .i64 (t1:Int),.int .i64 (t2:Int),.bool true] 91)
            have TB:=SBox.new wb 91 #[.int .i64 t0,.int .i64 (t1:Int),.int .i64 (t2:Int),.bool true]
            clear g2 E1 X1 Y1 F1
            have g0:=EC.cell 0 _ rfl
            have g1:=EC.cell 1 _ rfl
            have g2:=EC.cell 2 _ rfl
            have u0:=XB.cell 0 _ rfl
            have u1:=XB.cell 1 _ rfl
            have u2:=XB.cell 2 _ rfl
            have u3:=XB.cell 3 _ rfl
            have z0:=YB.cell 0 _ rfl
            have z1:=YB.cell 1 _ rfl
            have z2:=YB.cell 2 _ rfl
            have z3:=YB.cell 3 _ rfl
            have v2:=FB.cell 2 _ rfl
            have v3:=FB.cell 3 _ rfl
            have o0:=TB.cell 0 _ rfl
            have o1:=TB.cell 1 _ rfl
            have o2:=TB.cell 2 _ rfl
            have o3:=TB.cell 3 _ rfl
            go_wp2_with fail
            go_ret
            exact ⟨rfl,Bb⟩
    ·have s1:(x2 != y2)=true:=bne_iff_ne.2 c3
     have s2:(x2==y2)=false:=beq_eq_false_iff_ne.2 c3
     have s4:decide (x2=y2)=false:=decide_eq_false c3
     obtain rfl:R=false:=by rw [← HR.out];exact hold_no h _ (by intro hh;have q:=hold_inv h _ _ _ _ _ hh;rw [HX.out,HY.out] at q;exact c3 q.1)
     have g0:=EC.cell 0 _ rfl
     have g1:=EC.cell 1 _ rfl
     have g2:=EC.cell 2 _ rfl
     have u0:=XB.cell 0 _ rfl
     have u1:=XB.cell 1 _ rfl
     have u2:=XB.cell 2 _ rfl
     have u3:=XB.cell 3 _ rfl
     have z0:=YB.cell 0 _ rfl
     have z1:=YB.cell 1 _ rfl
     have z2:=YB.cell 2 _ rfl
     have z3:=YB.cell 3 _ rfl
     go_wp2_with fail
     go_ret
     exact ⟨rfl,BC⟩
   ·have s1:(y1 != t)=true:=bne_iff_ne.2 c2
    obtain rfl:R=false:=by rw [← HR.out];exact hold_no h _ (by intro hh;have q:=hold_inv h _ _ _ _ _ hh;rw [HX.out,HY.out] at q;exact c2 q.2.2)
    have g0:=EC.cell 0 _ rfl
    have g1:=EC.cell 1 _ rfl
    have g2:=EC.cell 2 _ rfl
    have u0:=XB.cell 0 _ rfl
    have u1:=XB.cell 1 _ rfl
    have u2:=XB.cell 2 _ rfl
    have u3:=XB.cell 3 _ rfl
    have z0:=YB.cell 0 _ rfl
    have z1:=YB.cell 1 _ rfl
    have z2:=YB.cell 2 _ rfl
    have z3:=YB.cell 3 _ rfl
    go_wp2_with fail
    go_ret
    exact ⟨rfl,BC⟩
  ·have s1:(x1 != f)=true:=bne_iff_ne.2 c1
   obtain rfl:R=false:=by rw [← HR.out];exact hold_no h _ (by intro hh;have q:=hold_inv h _ _ _ _ _ hh;rw [HX.out,HY.out] at q;exact c1 q.2.1)
   have g0:=EC.cell 0 _ rfl
   have g1:=EC.cell 1 _ rfl
   have g2:=EC.cell 2 _ rfl
   have u0:=XB.cell 0 _ rfl
   have u1:=XB.cell 1 _ rfl
   have u2:=XB.cell 2 _ rfl
   have u3:=XB.cell 3 _ rfl
   have z0:=YB.cell 0 _ rfl
   have z1:=YB.cell 1 _ rfl
   have z2:=YB.cell 2 _ rfl
   have z3:=YB.cell 3 _ rfl
   go_wp2_with fail
   go_ret
   exact ⟨rfl,BC⟩
end Go.Proofs.YtdlcimfifkhllaaGreat
