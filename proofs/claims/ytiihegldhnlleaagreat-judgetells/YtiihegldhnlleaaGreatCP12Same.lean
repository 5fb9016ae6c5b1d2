/-
  What judge.Same answers.
-/
import Derived.Test.YtiihegldhnlleaaGreatCP12Eq
import Derived.Test.YtiihegldhnlleaaGreatCL0c
namespace Go.Proofs.YtiihegldhnlleaaGreat
set_option maxRecDepth 100000
open Go.RowKit
set_option linter.unusedVariables false
attribute [local go_sem] ba_size
set_option maxHeartbeats 1000000 in
theorem phold_any (W:World) (bv:Nat) (s x:Bool) (h:SBox W bv 4 #[.bool s]) :
 Calls Tryz.prog 32 #[.bool x,.pointer (some ⟨bv,0,none⟩)] W fun e W'=>e=.returned (.tuple #[])∧W'=W.setCell ⟨bv,0,none⟩ (.bool (s&&x)):=by
 have c0:=h.cell 0 _ rfl
 have f0:=h.frozen 0
 clear h
 cases s with
 | true =>
   go_enter Tryz.func32,Tryz.ntmps32
   go_wp2_with fail
   go_end0
   exact ⟨rfl,by simp⟩
 | false =>
   go_enter Tryz.func32,Tryz.ntmps32
   go_wp2_with fail
   go_end0
   exact ⟨rfl,by simp⟩
structure Sm12 (w W:World) (ca cb:Array Value) (s:Bool):Prop where
 x:SBox W w.heap.size 28 ca
 y:SBox W (w.heap.size+1) 28 cb
 s:SBox W (w.heap.size+2) 4 #[.bool s]
 b:Below w.heap.size w W
theorem Sm12.put {w W:World} {ca cb:Array Value} {s:Bool} (h:Sm12 w W ca cb s) (t:Bool):Sm12 w (W.setCell ⟨w.heap.size+2,0,none⟩ (.bool t)) ca cb t :=
 ⟨h.x.other _ _ _ (by omega),h.y.other _ _ _ (by omega),h.s.set 0 _,h.b.setCell (p:=⟨w.heap.size+2,0,none⟩) (by simp) _⟩
theorem Sm12.below {w W W':World} {ca cb:Array Value} {s:Bool} (h:Sm12 w W ca cb s) (hb:Below W.heap.size W W'):Sm12 w W' ca cb s :=
 ⟨h.x.below hb,h.y.below hb,h.s.below hb,bel_trans h.b hb⟩
theorem Sm12.new (w:World) (ca cb:Array Value):Sm12 w ((((w.alloc (.cells ca 28)).alloc (.cells cb 28)).alloc (.cells #[.bool false] 4)).setCell ⟨w.heap.size+2,0,none⟩ (.bool true)) ca cb true:=by
 have X:=(((SBox.new w 28 ca).alloc (.cells cb 28)).alloc (.cells #[.bool false] 4))
 have Y:=(SBox.new (w.alloc (.cells ca 28)) 28 cb).alloc (.cells #[.bool false] 4)
 have S:=SBox.new ((w.alloc (.cells ca 28)).alloc (.cells cb 28)) 4 #[.bool false]
 simp only [World.size_alloc] at Y S
 have B:Below w.heap.size w (((w.alloc (.cells ca 28)).alloc (.cells cb 28)).alloc (.cells #[.bool false] 4)):=(((Below.refl _ w).alloc (Nat.le_refl _) _).alloc (by simp) _).alloc (by simp;omega) _
 exact Sm12.put (s:=false) ⟨X,Y,S,B⟩ true
theorem same_bools (r0 r1 rO m0 m1 m2 rR:Bool):(((((true&&r0)&&r1)&&rO)&&(m0&&m1&&m2))&&rR)=(rO&&rR&&r0&&r1&&(m0&&m1&&m2)):=by revert r0 r1 rO m0 m1 m2 rR;decide
set_option maxHeartbeats 4000000 in
theorem psamev_any (a b:Vd) (ao ar bo br:Value) (w:World) (hao:IsInts w ao a.2.2.1) (har:IsEds w ar a.2.2.2.2) (hbo:IsInts w bo b.2.2.1) (hbr:IsEds w br b.2.2.2.2) :
 Calls Tryz.prog 15 #[.agg (vdC a ao ar),.agg (vdC b bo br)] w fun e w'=>e=.returned (.bool (sameV a b))∧Below w.heap.size w w':=by
 obtain ⟨a0,a1,aO,⟨p0,p1,p2⟩,aR⟩:=a
 obtain ⟨b0,b1,bO,⟨q0,q1,q2⟩,bR⟩:=b
 simp only at hao har hbo hbr
 have CI:=fun W (hW:Below w.heap.size w W)=>peqI_any ao bo aO bO W (hao.below hW) (hbo.below hW)
 have CE:=fun W (hW:Below w.heap.size w W)=>peqE_any ar br aR bR W (har.below hW) (hbr.below hW)
 obtain ⟨aoa,aoc,rfl,_⟩:=hao.some_at
 obtain ⟨ara,arc,rfl,_⟩:=har.some_at
 obtain ⟨boa,boc,rfl,_⟩:=hbo.some_at
 obtain ⟨bra,brc,rfl,_⟩:=hbr.some_at
 clear hao har hbo hbr
 have HD:Hid (sameV (a0,a1,aO,(p0,p1,p2),aR) (b0,b1,bO,(q0,q1,q2),bR)=(((((true&&(a0==b0))&&(a1==b1))&&decide (aO=bO))&&(decide (p0=q0)&&decide (p1=q1)&&decide (p2=q2)))&&decide (aR=bR))):=by
  show _=_
  rw [same_bools]
  rfl
 obtain ⟨aon,han⟩:∃ n,aO.length=n:=⟨_,rfl⟩
 obtain ⟨arn,harn⟩:∃ n,aR.length=n:=⟨_,rfl⟩
 obtain ⟨bon,hbn⟩:∃ n,bO.length=n:=⟨_,rfl⟩
 obtain ⟨brn,hbrn⟩:∃ n,bR.length=n:=⟨_,rfl⟩
 rw [han,hbn] at CI
 rw [harn,hbrn] at CE
 simp only [vdC,han,harn,hbn,hbrn]
 rw [HD.out]
 clear han harn hbn hbrn HD
 have ebd:∀ V:World,Sem.run Tryz.prog (binOp .eql 25 (.agg #[.int .i64 p0,.int .i64 p1,.int .i64 p2]) (.agg #[.int .i64 q0,.int .i64 q1,.int .i64 q2])) V=.ok (.bool (decide (p0=q0)&&decide (p1=q1)&&decide (p2=q2))) V:=fun V=>run_bdeql V _ _ _ _ _ _
 generalize (decide (p0=q0)&&decide (p1=q1)&&decide (p2=q2))=m at ebd ⊢
 generalize decide (aO=bO)=rO at CI ⊢
 generalize decide (aR=bR)=rR at CE ⊢
 obtain ⟨W0,hW0⟩:∃ W,((((w.alloc (.cells #[.int .i64 a0,.bool a1,.slice aoa aon aoc,.int .i64 p0,.int .i64 p1,.int .i64 p2,.slice ara arn arc] 28)).alloc (.cells #[.int .i64 b0,.bool b1,.slice boa bon boc,.int .i64 q0,.int .i64 q1,.int .i64 q2,.slice bra brn brc] 28)).alloc (.cells #[.bool false] 4)).setCell ⟨w.heap.size+2,0,none⟩ (.bool true))=W:=⟨_,rfl⟩
 have H0:Sm12 w W0 #[.int .i64 a0,.bool a1,.slice aoa aon aoc,.int .i64 p0,.int .i64 p1,.int .i64 p2,.slice ara arn arc] #[.int .i64 b0,.bool b1,.slice boa bon boc,.int .i64 q0,.int .i64 q1,.int .i64 q2,.slice bra brn brc] true:=by rw [← hW0];exact Sm12.new w _ _
 have x0:=H0.x.cell 0 _ rfl
 have y0:=H0.y.cell 0 _ rfl
 go_enter Tryz.func15,Tryz.ntmps15
 go_wp2_with fail
 generalize hV0:World.setCell _ _ _=V0
 obtain rfl:W0=V0:=by rw [← hW0,← hV0]
 go_wp2_with fail
 refine (phold_any _ (w.heap.size+1+1) true (a0==b0) H0.s).mono ?_
 rintro e1 w1 ⟨rfl,hw1⟩
 have H1:Sm12 w w1 #[.int .i64 a0,.bool a1,.slice aoa aon aoc,.int .i64 p0,.int .i64 p1,.int .i64 p2,.slice ara arn arc] #[.int .i64 b0,.bool b1,.slice boa bon boc,.int .i64 q0,.int .i64 q1,.int .i64 q2,.slice bra brn brc] (true&&(a0==b0)):=by rw [hw1];exact H0.put _
 clear hw1
 clear x0 y0
 have x1:=H1.x.cell 1 _ rfl
 have y1:=H1.y.cell 1 _ rfl
 go_wp2_with fail
 refine (phold_any _ (w.heap.size+1+1) (true&&(a0==b0)) (a1==b1) H1.s).mono ?_
 rintro e2 w2 ⟨rfl,hw2⟩
 have H2:Sm12 w w2 #[.int .i64 a0,.bool a1,.slice aoa aon aoc,.int .i64 p0,.int .i64 p1,.int .i64 p2,.slice ara arn arc] #[.int .i64 b0,.bool b1,.slice boa bon boc,.int .i64 q0,.int .i64 q1,.int .i64 q2,.slice bra brn brc] ((true&&(a0==b0))&&(a1==b1)):=by rw [hw2];exact H1.put _
 clear hw2
 clear x1 y1
 have x2:=H2.x.cell 2 _ rfl
 have y2:=H2.y.cell 2 _ rfl
 go_wp2_with fail
 refine (CI _ H2.b).mono ?_
 rintro e3 w3 ⟨rfl,b3'⟩
 have H3:=H2.below b3'
 clear x2 y2
 go_wp2_with fail
 refine (phold_any _ (w.heap.size+1+1) ((true&&(a0==b0))&&(a1==b1)) rO H3.s).mono ?_
 rintro e4 w4 ⟨rfl,hw4⟩
 have H4:Sm12 w w4 #[.int .i64 a0,.bool a1,.slice aoa aon aoc,.int .i64 p0,.int .i64 p1,.int .i64 p2,.slice ara arn arc] #[.int .i64 b0,.bool b1,.slice boa bon boc,.int .i64 q0,.int .i64 q1,.int .i64 q2,.slice bra brn brc] (((true&&(a0==b0))&&(a1==b1))&&rO):=by rw [hw4];exact H3.put _
 clear hw4
 have x3:=H4.x.cell 3 _ rfl
 have y3:=H4.y.cell 3 _ rfl
 have x4:=H4.x.cell 4 _ rfl
 have y4:=H4.y.cell 4 _ rfl
 have x5:=H4.x.cell 5 _ rfl
 have y5:=H4.y.cell 5 _ rfl
 go_wp2_with fail
 refine (phold_any _ (w.heap.size+1+1) (((true&&(a0==b0))&&(a1==b1))&&rO) m H4.s).mono ?_
 rintro e5 w5 ⟨rfl,hw5⟩
 have H5:Sm12 w w5 #[.int .i64 a0,.bool a1,.slice aoa aon aoc,.int .i64 p0,.int .i64 p1,.int .i64 p2,.slice ara arn arc] #[.int .i64 b0,.bool b1,.slice boa bon boc,.int .i64 q0,.int .i64 q1,.int .i64 q2,.slice bra brn brc] ((((true&&(a0==b0))&&(a1==b1))&&rO)&&m):=by rw [hw5];exact H4.put _
 clear hw5
 clear x3 y3 x4 y4 x5 y5
 have x6:=H5.x.cell 6 _ rfl
 have y6:=H5.y.cell 6 _ rfl
 go_wp2_with fail
 refine (CE _ H5.b).mono ?_
 rintro e6 w6 ⟨rfl,b6'⟩
 have H6:=H5.below b6'
 clear x6 y6
 go_wp2_with fail
 refine (phold_any _ (w.heap.size+1+1) ((((true&&(a0==b0))&&(a1==b1))&&rO)&&m) rR H6.s).mono ?_
 rintro e7 w7 ⟨rfl,hw7⟩
 have H7:Sm12 w w7 #[.int .i64 a0,.bool a1,.slice aoa aon aoc,.int .i64 p0,.int .i64 p1,.int .i64 p2,.slice ara arn arc] #[.int .i64 b0,.bool b1,.slice boa bon boc,.int .i64 q0,.int .i64 q1,.int .i64 q2,.slice bra brn brc] (((((true&&(a0==b0))&&(a1==b1))&&rO)&&m)&&rR):=by rw [hw7];exact H6.put _
 clear hw7
 have z0:=H7.s.cell 0 _ rfl
 go_wp2_with fail
 go_ret
 exact ⟨rfl,H7.b⟩
end Go.Proofs.YtiihegldhnlleaaGreat
