/-
  What cartoucheref15.Bad answers.
-/
import Derived.Test.YthamoeekiglphaaGreatDoorSLeanTellsL0a
import Derived.Test.YthamoeekiglphaaGreatDoorCL0e
namespace Go.Proofs.YthamoeekiglphaaGreatDoor
set_option maxRecDepth 100000
open Go.RowKit
set_option linter.unusedVariables false
attribute [local go_sem] ba_size farW_cell
theorem badB_none1 (l:List Pf) (b:Int × Int × Int) (h:fp (pAt b.2.1) l=none):badB l b=false:=by
 have e:evP l b.2.1=(0,0,[],[]):=by unfold evP;rw [h];rfl
 unfold badB
 rw [e,show decide (((0,0,[],[]):Ev).1=2)=false from rfl]
 simp
theorem badB_none2 (l:List Pf) (b:Int × Int × Int) (h:fp (pAt b.2.2) l=none):badB l b=false:=by
 have e:evP l b.2.2=(0,0,[],[]):=by unfold evP;rw [h];rfl
 unfold badB
 rw [e,show decide (((0,0,[],[]):Ev).1=3)=false from rfl]
 simp
theorem badB_low (l:List Pf) (b:Int × Int × Int) (h:b.2.1 < 0):badB l b=false:=by
 unfold badB
 rw [decide_eq_false (show ¬ 0≤b.2.1 by omega)]
 rfl
theorem evP_some (l:List Pf) (i:Int) (k:Nat) (h:fp (pAt i) l=some k):evP l i=(pf15 l k).2.1:=by unfold evP;rw [h];rfl
set_option maxHeartbeats 16000000 in
theorem rbad15_any (l:List Pf) (v:Value) (w:World) (hP:IsPfs w v l) (bk bi bj:Int) :
 Calls Tryz.prog 16 #[v,.agg #[.int .i64 bk,.int .i64 bi,.int .i64 bj]] w fun e w'=>e=.returned (.bool (badB l (bk,bi,bj)))∧Below w.heap.size w w':=by
 have CA:=Lib.hid (fun (i:Int) V (hV:Below w.heap.size w V)=>rat15_any l v V (hP.below hV) i)
 have CC0:=fun (t:Int) V (hV:Below w.heap.size w V)=>rcom15_any l v V (hP.below hV) t
 have CD0:=fun (t:Int) V (hV:Below w.heap.size w V)=>rends15_any l v V (hP.below hV) t
 have CW0:=fun (key val:List UInt8) V (hV:Below w.heap.size w V)=>rwrit15_any l v V (hP.below hV) key val
 have HN1:=Lib.hid (badB_none1 l (bk,bi,bj))
 have HN2:=Lib.hid (badB_none2 l (bk,bi,bj))
 have HLw:=Lib.hid (badB_low l (bk,bi,bj))
 have HS1:=Lib.hid (evP_some l bi)
 have HS2:=Lib.hid (evP_some l bj)
 have HLt:=Lib.hid (fun (f:Pf→Bool) (k:Nat) (h:fp f l=some k)=>fp_lt h)
 obtain ⟨a,cap,rfl,k1,k2,k3,HC⟩:=hP.reads
 obtain ⟨nn,hn⟩:∃ n,l.length=n:=⟨_,rfl⟩
 have HN:=Lib.hid hn
 simp only [hn] at CA CC0 CD0 CW0 ⊢
 rw [hn] at k1 k3
 have CC:=Lib.hid CC0
 have CD:=Lib.hid CD0
 have CW:=Lib.hid CW0
 have HB:Hid (∀ X Y,evP l bi=X→evP l bj=Y→badB l (bk,bi,bj)=(decide (0≤bi)&&decide (X.1=2)&&decide (bi < comP l X.2.1)&&decide (Y.1=3)&&decide (Y.2.2.1=X.2.2.1)&&kindB l (bk,bi,bj) X Y)):=fun X Y h1 h2=>by rw [← h1,← h2];rfl
 obtain ⟨rr,hrr⟩:∃ r,badB l (bk,bi,bj)=r:=⟨_,rfl⟩
 rw [hrr] at HN1 HN2 HLw HB ⊢
 obtain ⟨o1,ho1⟩:∃ o,fp (pAt bi) l=o:=⟨_,rfl⟩
 obtain ⟨o2,ho2⟩:∃ o,fp (pAt bj) l=o:=⟨_,rfl⟩
 have D1:=fun V hV=>CA.out bi V hV
 have D2:=fun V hV=>CA.out bj V hV
 rw [ho1] at D1
 rw [ho2] at D2
 have HD2:=Lib.hid D2
 simp only at HN1 HN2 HLw
 rw [ho1] at HN1
 rw [ho2] at HN2
 have H1:=Lib.hid ho1
 have H2:=Lib.hid ho2
 have X0:=SBox.new w 24 #[.int .i64 bk,.int .i64 bi,.int .i64 bj]
 have B0:=(Below.refl w.heap.size w).alloc (Nat.le_refl _) (.cells #[.int .i64 bk,.int .i64 bi,.int .i64 bj] 24)
 have e1:=X0.cell 1 _ rfl
 have e2:=X0.cell 2 _ rfl
 have D1':=D1 _ B0
 clear CC0 CD0 CW0 hn hP hrr D1 D2 CA ho1 ho2
 go_enter Tryz.func16,Tryz.ntmps16
 go_wp2_with fail
 refine D1'.mono ?_
 rintro e w1 ⟨rfl,b1⟩
 have B1:=bel_trans B0 b1
 have X1:=X0.below b1
 have D2':=HD2.out _ B1
 clear e1 e2 X0 B0 b1 D1' HD2
 have e1:=X1.cell 1 _ rfl
 have e2:=X1.cell 2 _ rfl
 go_wp2_with fail
 refine D2'.mono ?_
 rintro e w2 ⟨rfl,b2⟩
 have B2:=bel_trans B1 b2
 have X2:=X1.below b2
 clear e1 e2 X1 B1 b2 D2'
 have e1:=X2.cell 1 _ rfl
 have e2:=X2.cell 2 _ rfl
 cases o1 with
 | none =>
   have HF:Hid (rr=false):=HN1.out rfl
   have HO:Hid (oI none=-1):=rfl
   rw [HO.out]
   go_wp2_with fail
   go_ret
   exact ⟨by rw [HF.out];rfl,B2⟩
 | some i =>
 cases o2 with
 | none =>
   have HF:Hid (rr=false):=HN2.out rfl
   have HO:Hid (oI none=-1):=rfl
   have HO2:Hid (oI (some i)=(i:Int)):=rfl
   have j1:decide ((i:Int) < 0)=false:=decide_eq_false (by omega)
   rw [HO.out,HO2.out]
   go_wp2_with fail
   go_ret
   exact ⟨by rw [HF.out];rfl,B2⟩
 | some k =>
 have HO1:Hid (oI (some i)=(i:Int)):=rfl
 have HO2:Hid (oI (some k)=(k:Int)):=rfl
 have j1:decide ((i:Int) < 0)=false:=decide_eq_false (by omega)
 have j2:decide ((k:Int) < 0)=false:=decide_eq_false (by omega)
 rw [HO1.out,HO2.out]
 by_cases hlow:bi < 0
 ·have j3:decide (bi < 0)=true:=decide_eq_true hlow
  have HF:Hid (rr=false):=HLw.out hlow
  clear hlow
  go_wp2_with fail
  go_ret
  exact ⟨by rw [HF.out];rfl,B2⟩
 have j3:decide (bi < 0)=false:=decide_eq_false hlow
 have hil:=HLt.out _ i H1.out
 have hkl:=HLt.out _ k H2.out
 have p1:(i:Int) < (nn:Int):=by have:=HN.out;omega
 have p2:(k:Int) < (nn:Int):=by have:=HN.out;omega
 obtain ⟨bb,off,rfl,ui,hui,HQi⟩:=HC.out i hil
 obtain ⟨bb2,off2,hbe,uk,huk,HQk⟩:=HC.out k hkl
 obtain ⟨rfl,rfl⟩:bb=bb2∧off=off2:=by injection hbe with h;injection h with h1 h2;exact ⟨h1,h2⟩
 have HX0:Hid (evP l bi=l[i].2.1):=(HS1.out i H1.out).trans (by rw [pf15_at l i hil])
 have HY0:Hid (evP l bj=l[k].2.1):=(HS2.out k H2.out).trans (by rw [pf15_at l k hkl])
 have HRw:Hid (∀ m (hm:m < l.length),∃ u,∀ V,Below w.heap.size w V→V.cell? ⟨bb,off+m*6,none⟩=some (.int .i64 l[m].1)∧V.cell? ⟨bb,off+m*6+1,none⟩=some (.int .i64 l[m].2.1.1)∧V.cell? ⟨bb,off+m*6+2,none⟩=some (.int .i64 l[m].2.1.2.1)∧V.cell? ⟨bb,off+m*6+5,none⟩=some u):=fun m hm=>by
  obtain ⟨b9,o9,h9,u9,_,H9⟩:=HC.out m hm
  injection h9 with h;injection h with h1 h2
  subst h1 h2
  refine ⟨u9,fun V hV=>?_⟩
  obtain ⟨q0,q1,q2,_,_,q5⟩:=H9 V hV
  exact ⟨q0,q1,q2,q5⟩
 obtain ⟨c0,c1,c2,c3,c4,_⟩:=HQi w2 B2
 have HQk1:=Lib.hid HQk
 obtain ⟨⟨iy,⟨x0,x1,x2,x3⟩,iq⟩,hx⟩:∃ x,l[i]=x:=⟨_,rfl⟩
 obtain ⟨⟨ky,⟨y0,y1,y2,y3⟩,kq⟩,hy⟩:∃ x,l[k]=x:=⟨_,rfl⟩
 rw [hx] at HX0 c0 c1 c2 c3 c4
 rw [hy] at HY0 HQk1
 simp only at HX0 HY0 c0 c1 c2 c3 c4
 have HX:=HX0
 have HY:=HY0
 have HB9:=Lib.hid (HB.out _ _ HX.out HY.out)
 simp only at HB9
 clear hx hy hui huk HQi HQk hbe HX0 HY0 HB HS1 HS2 HN1 HN2 HLw
 have A3:=B2.alloc B2.size (.cells #[.int .i64 x0,.int .i64 x1,.string ⟨x2.toArray⟩,.string ⟨x3.toArray⟩] 53)
 obtain ⟨d0,d1,d2,d3,d4,_⟩:=HQk1.out _ A3
 simp only at d0 d1 d2 d3 d4
 have E:TwoE w ((w2.alloc (.cells #[.int .i64 x0,.int .i64 x1,.string ⟨x2.toArray⟩,.string ⟨x3.toArray⟩] 53)).alloc (.cells #[.int .i64 y0,.int .i64 y1,.string ⟨y2.toArray⟩,.string ⟨y3.toArray⟩] 53)) 24 #[.int .i64 bk,.int .i64 bi,.int .i64 bj] w2.heap.size (w2.heap.size+1) (x0,x1,x2,x3) (y0,y1,y2,y3) :=
  ⟨A3.alloc A3.size _,(X2.alloc _).alloc _,(SBox.new w2 _ _).alloc _,by have:=SBox.new (w2.alloc (.cells #[.int .i64 x0,.int .i64 x1,.string ⟨x2.toArray⟩,.string ⟨x3.toArray⟩] 53)) 53 #[.int .i64 y0,.int .i64 y1,.string ⟨y2.toArray⟩,.string ⟨y3.toArray⟩];rw [World.size_alloc] at this;exact this⟩
 have HE0:=Lib.hid E
 clear E A3 X2
 go_upto_region 7 with fail
 (try simp only [World.size_alloc])
 have E:=HE0.out
 generalize (w2.alloc (.cells #[.int .i64 x0,.int .i64 x1,.string ⟨x2.toArray⟩,.string ⟨x3.toArray⟩] 53)).alloc (.cells #[.int .i64 y0,.int .i64 y1,.string ⟨y2.toArray⟩,.string ⟨y3.toArray⟩] 53)=wc at E ⊢
 generalize w2.heap.size=bx at E ⊢
 clear HE0 c0 c1 c2 c3 c4 d0 d1 d2 d3 d4 e1 e2 HQk1 B2
 obtain ⟨cy,hcy⟩:∃ z,bx+1=z:=⟨_,rfl⟩
 rw [hcy] at E ⊢
 clear hcy
 obtain ⟨z,hz⟩:∃ z,comP l x1=z:=⟨_,rfl⟩
 have CZ:=CC.out x1
 rw [hz] at CZ
 have HCZ:=Lib.hid CZ
 obtain ⟨r2,g2⟩:∃ r,(x0 != 2)=r:=⟨_,rfl⟩
 obtain ⟨r3,g3⟩:∃ r,decide (z≤bi)=r:=⟨_,rfl⟩
 obtain ⟨r4,g4⟩:∃ r,(y0 != 3)=r:=⟨_,rfl⟩
 obtain ⟨r5,g5⟩:∃ r,(x2 != y2)=r:=⟨_,rfl⟩
 have g5b:(x2==y2)=!r5:=by rw [← g5];unfold bne;rw [Bool.not_not]
 obtain ⟨kb,hkb⟩:∃ r,kindB l (bk,bi,bj) (x0,x1,x2,x3) (y0,y1,y2,y3)=r:=⟨_,rfl⟩
 have HKB:=Lib.hid hkb
 have HRR:Hid (rr=((!r2&&!r4&&!r5&&!r3)&&kb)):=by
  show _=_
  rw [HB9.out,hkb,hz]
  have q2:decide (x0=2)=!r2:=by rw [← g2];unfold bne;rw [Bool.not_not];rfl
  have q4:decide (y0=3)=!r4:=by rw [← g4];unfold bne;rw [Bool.not_not];rfl
  have q5:decide (y2=x2)=!r5:=by rw [← g5b,← dec_beq15];exact decide_eq_decide.2 eq_comm
  have q1:decide (0≤bi)=true:=decide_eq_true (by omega)
  have q3:decide (bi < z)=!r3:=by rw [← g3,← decide_not];exact decide_eq_decide.2 (by omega)
  rw [q1,q2,q3,q4,q5]
  cases r2<;>cases r3<;>cases r4<;>cases r5<;>rfl
 clear hz CZ CC hkb HB9
 have HE:=Lib.hid E
 have e0:=E.bx.cell 0 _ rfl
 have e1:=E.bx.cell 1 _ rfl
 have e2:=E.bx.cell 2 _ rfl
 have xx0:=E.x5.cell 0 _ rfl
 have xx1:=E.x5.cell 1 _ rfl
 have xx2:=E.x5.cell 2 _ rfl
 have xx3:=E.x5.cell 3 _ rfl
 have yy0:=E.x6.cell 0 _ rfl
 have yy1:=E.x6.cell 1 _ rfl
 have yy2:=E.x6.cell 2 _ rfl
 have yy3:=E.x6.cell 3 _ rfl
 have Bc:=E.bel
 clear E
 have H:r2=true∨(r2=false∧r4=true)∨(r2=false∧r4=false∧r5=true)∨(r2=false∧r4=false∧r5=false∧r3=true)∨(r2=false∧r4=false∧r5=false∧r3=false):=by
  cases r2<;>cases r3<;>cases r4<;>cases r5<;>simp
 rcases H with rfl | ⟨rfl,rfl⟩ | ⟨rfl,rfl,rfl⟩ | ⟨rfl,rfl,rfl,rfl⟩ | ⟨rfl,rfl,rfl,rfl⟩
 rotate_right
 ·have HR2:Hid (rr=kb):=by show _=_;rw [HRR.out];rfl
  clear HRR
  simp only [Bool.not_false] at g5b
  refine region_far (by kernel_rfl) (by kernel_rfl) ?_
  repeat (first | go_big_quiet_skip | (go_big_quiet_want;go_big_quiet_op;first | go_big_quiet_on | go_big_quiet_call (first | (go_at_call 45;exact calls_far (HCZ.out _ (bel_trans Bc (farW_bel _ _)))))))
  refine wpQuiet_nil ?_
  rintro w' ⟨U,rfl⟩
  have E1:=HE.out.below (farW_bel wc U)
  generalize farW wc U=wB at E1 ⊢
  clear e0 e1 e2 xx0 xx1 xx2 xx3 yy0 yy1 yy2 yy3 Bc HCZ HE g2 g3 g4 g5 g5b
  have e0:=E1.bx.cell 0 _ rfl
  have e1:=E1.bx.cell 1 _ rfl
  have e2:=E1.bx.cell 2 _ rfl
  have xx0:=E1.x5.cell 0 _ rfl
  have xx1:=E1.x5.cell 1 _ rfl
  have xx2:=E1.x5.cell 2 _ rfl
  have xx3:=E1.x5.cell 3 _ rfl
  have yy0:=E1.x6.cell 0 _ rfl
  have yy1:=E1.x6.cell 1 _ rfl
  have yy2:=E1.x6.cell 2 _ rfl
  have yy3:=E1.x6.cell 3 _ rfl
  have HE1:=Lib.hid E1
  have D3:=CW.out x2 x3 _ E1.bel
  obtain ⟨o3,ho3⟩:∃ o,fp (pWr x2 x3) l=o:=⟨_,rfl⟩
  rw [ho3] at D3
  have HW3:Hid (wrP l x2 x3=o3):=ho3
  clear E1 ho3 CW
  go_upto_region 9 with fail
  go_wp2_with fail
  refine D3.mono ?_
  rintro e w4 ⟨rfl,b4⟩
  have E4:=HE1.out.below b4
  clear e0 e1 e2 xx0 xx1 xx2 xx3 yy0 yy1 yy2 yy3 D3 b4 HE1
  have e0:=E4.bx.cell 0 _ rfl
  have e1:=E4.bx.cell 1 _ rfl
  have e2:=E4.bx.cell 2 _ rfl
  have xx0:=E4.x5.cell 0 _ rfl
  have xx1:=E4.x5.cell 1 _ rfl
  have xx2:=E4.x5.cell 2 _ rfl
  have xx3:=E4.x5.cell 3 _ rfl
  have yy0:=E4.x6.cell 0 _ rfl
  have yy1:=E4.x6.cell 1 _ rfl
  have yy2:=E4.x6.cell 2 _ rfl
  have yy3:=E4.x6.cell 3 _ rfl
  have Bd:=E4.bel
  have HE4:=Lib.hid E4
  clear E4
  obtain ⟨ow,how⟩:∃ r,(y1==x1)=r:=⟨_,rfl⟩
  obtain ⟨se,hse⟩:∃ r,(y3==x3)=r:=⟨_,rfl⟩
  have hown:(y1 != x1)=!ow:=by rw [← how];rfl
  have hsen:(y3 != x3)=!se:=by rw [← hse];rfl
  have HK:Hid (kb=(if bk=1 then !ow&&se&&decide ((endP l y1).2.1.1=5) else if bk=2 then !ow&&!se&&overB l (x0,x1,x2,x3) y1 bj else if bk=3 then ow&&!se&&decide (bj < bi)&&lastB l (x0,x1,x2,x3) bi bj else if bk=4 then ow&&se&&decide (bi < bj) else false)):=by
   show _=_
   rw [← HKB.out,← hse,← dec_beq15,← how]
   rfl
  clear HKB
  by_cases d1:bk=1
  ·have n1:(bk==1)=true:=by rw [d1];rfl
   obtain ⟨o4,ho4⟩:∃ o,fp (pEnd y1) l=o:=⟨_,rfl⟩
   have D4:=CD.out y1 _ Bd
   rw [ho4] at D4
   have HEn:Hid (endP l y1=gotO l o4):=by show _=_;unfold endP;rw [ho4]
   have HLm:Hid (∀ m,o4=some m→m < l.length):=fun m h=>HLt.out _ m (ho4.trans h)
   have HK1:Hid (kb=(!ow&&se&&decide ((gotO l o4).2.1.1=5))):=by show _=_;rw [← HEn.out];exact HK.out.trans (if_pos d1)
   clear HK d1 ho4 HEn
   go_upto_region 11 with fail
   go_wp2_with fail
   refine D4.mono ?_
   rintro e w5 ⟨rfl,b5⟩
   have E5:=HE4.out.below b5
   clear e0 e1 e2 xx0 xx1 xx2 xx3 yy0 yy1 yy2 yy3 D4 b5 HE4 Bd
   have e0:=E5.bx.cell 0 _ rfl
   have e1:=E5.bx.cell 1 _ rfl
   have e2:=E5.bx.cell 2 _ rfl
   have xx0:=E5.x5.cell 0 _ rfl
   have xx1:=E5.x5.cell 1 _ rfl
   have xx2:=E5.x5.cell 2 _ rfl
   have xx3:=E5.x5.cell 3 _ rfl
   have yy0:=E5.x6.cell 0 _ rfl
   have yy1:=E5.x6.cell 1 _ rfl
   have yy2:=E5.x6.cell 2 _ rfl
   have yy3:=E5.x6.cell 3 _ rfl
   have Bd:=E5.bel
   clear E5
   cases se with
   | false =>
     have HK2:Hid (kb=false):=by show _=_;rw [HK1.out];cases ow<;>rfl
     go_wp2_with fail
     go_ret
     exact ⟨by rw [HR2.out,HK2.out];rfl,Bd⟩
   | true =>
   cases ow with
   | true =>
     have HK2:Hid (kb=false):=HK1.out
     simp only [Bool.not_true] at hown
     go_wp2_with fail
     go_ret
     exact ⟨by rw [HR2.out,HK2.out];rfl,Bd⟩
   | false =>
   simp only [Bool.not_false] at hown
   cases o4 with
   | none =>
     have HK2:Hid (kb=false):=HK1.out
     have HO:Hid (oI none=-1):=rfl
     rw [HO.out]
     go_wp2_with fail
     go_ret
     exact ⟨by rw [HR2.out,HK2.out];rfl,Bd⟩
   | some m =>
     have hm:=HLm.out m rfl
     have HO:Hid (oI (some m)=(m:Int)):=rfl
     have p5:(m:Int) < (nn:Int):=by have:=HN.out;omega
     have j9:decide ((m:Int) ≥ 0)=true:=decide_eq_true (by omega)
     obtain ⟨u,HU⟩:=HRw.out m hm
     obtain ⟨m0,m1,m2,m5⟩:=HU w5 Bd
     have HG:Hid (gotO l (some m)=l[m]):=pf15_at l m hm
     obtain ⟨⟨qy,⟨q0,q1,q2,q3⟩,qq⟩,hq⟩:∃ x,l[m]=x:=⟨_,rfl⟩
     rw [hq] at HG m0 m1 m2
     simp only at m0 m1 m2
     obtain ⟨k5,hk5⟩:∃ r,(q0==5)=r:=⟨_,rfl⟩
     have HK2:Hid (kb=k5):=by show _=_;rw [HK1.out,HG.out];exact hk5
     rw [HO.out]
     clear hq HU HG HK1
     go_wp2_with fail
     go_ret
     exact ⟨by rw [HR2.out,HK2.out];rfl,Bd⟩
  ·have n1:(bk==1)=false:=beq_eq_false_iff_ne.2 d1
   replace HK:Hid (kb=(if bk=2 then !ow&&!se&&overB l (x0,x1,x2,x3) y1 bj else if bk=3 then ow&&!se&&decide (bj < bi)&&lastB l (x0,x1,x2,x3) bi bj else if bk=4 then ow&&se&&decide (bi < bj) else false)):=HK.out.trans (if_neg d1)
   have HRow:Hid (∀ m,o3=some m→m < l.length):=fun m h=>HLt.out _ m (HW3.out.trans h)
   clear d1 CD
   by_cases d2:bk=2
   ·have n2:(bk==2)=true:=by rw [d2];rfl
    obtain ⟨r6,g6⟩:∃ r,(x3 != [])=r:=⟨_,rfl⟩
    have g6b:(x3==[])=!r6:=by rw [← g6];cases x3<;>rfl
    have HK1:Hid (kb=(!ow&&!se&&(r6&&(o3.isSome&&(decide ((gotO l o3).1 < bj)&&((gotO l o3).2.1.2.1==y1)))))):=by
     show _=_
     rw [← g6]
     have:=overB_is l (x0,x1,x2,x3) y1 bj o3 HW3.out
     simp only at this
     rw [← this]
     exact HK.out.trans (if_pos d2)
    clear HK d2
    have H:ow=true∨(ow=false∧se=true)∨(ow=false∧se=false∧r6=false)∨(ow=false∧se=false∧r6=true):=by cases ow<;>cases se<;>cases r6<;>simp
    rcases H with rfl | ⟨rfl,rfl⟩ | ⟨rfl,rfl,rfl⟩ | ⟨rfl,rfl,rfl⟩
    rotate_right
    ·simp only [Bool.not_true,Bool.not_false] at hown hsen g6b
     cases o3 with
     | none =>
       have HK2:Hid (kb=false):=HK1.out
       have HO:Hid (oI none=-1):=rfl
       rw [HO.out]
       go_upto_region 14 with fail
       refine region_far (by kernel_rfl) (by kernel_rfl) ?_
       repeat (first | go_big_quiet_skip | (go_big_quiet_want;go_big_quiet_op;go_big_quiet_on))
       refine wpQuiet_nil ?_
       rintro w' ⟨U,rfl⟩
       have Be:=bel_trans Bd (farW_bel w4 U)
       generalize farW w4 U=wE at Be ⊢
       go_wp2_with fail
       go_ret
       exact ⟨by rw [HR2.out,HK2.out];rfl,Be⟩
     | some m =>
       have hm:=HRow.out m rfl
       have HO:Hid (oI (some m)=(m:Int)):=rfl
       have p5:(m:Int) < (nn:Int):=by have:=HN.out;omega
       have j9:decide ((m:Int) ≥ 0)=true:=decide_eq_true (by omega)
       obtain ⟨u,HU⟩:=HRw.out m hm
       obtain ⟨m0,m1,m2,m5⟩:=HU w4 Bd
       have HG:Hid (gotO l (some m)=l[m]):=pf15_at l m hm
       obtain ⟨⟨qy,⟨q0,q1,q2,q3⟩,qq⟩,hq⟩:∃ x,l[m]=x:=⟨_,rfl⟩
       rw [hq] at HG m0 m1 m2
       simp only at m0 m1 m2
       obtain ⟨lt,hlt⟩:∃ r,decide (qy < bj)=r:=⟨_,rfl⟩
       obtain ⟨te,hte⟩:∃ r,(q1==y1)=r:=⟨_,rfl⟩
       have HK2:Hid (kb=(lt&&te)):=by show _=_;rw [HK1.out,HG.out,← hlt,← hte];rfl
       rw [HO.out]
       clear hq HU HG HK1
       cases lt
       all_goals
        go_upto_region 14 with fail
        refine region_far (by kernel_rfl) (by kernel_rfl) ?_
        repeat (first | go_big_quiet_skip | (go_big_quiet_want;go_big_quiet_op;go_big_quiet_on))
        refine wpQuiet_nil ?_
        rintro w' ⟨U,rfl⟩
        have Be:=bel_trans Bd (farW_bel w4 U)
        generalize farW w4 U=wE at Be ⊢
        go_wp2_with fail
        go_ret
        exact ⟨by rw [HR2.out,HK2.out];rfl,Be⟩
    all_goals
     have HK2:Hid (kb=false):=by show _=_;rw [HK1.out];rfl
     (try simp only [Bool.not_true,Bool.not_false] at hown)
     (try simp only [Bool.not_true,Bool.not_false] at hsen)
     (try simp only [Bool.not_false] at g6b)
     go_upto_region 14 with fail
     refine region_far (by kernel_rfl) (by kernel_rfl) ?_
     repeat (first | go_big_quiet_skip | (go_big_quiet_want;go_big_quiet_op;go_big_quiet_on))
     refine wpQuiet_nil ?_
     rintro w' ⟨U,rfl⟩
     have Be:=bel_trans Bd (farW_bel w4 U)
     generalize farW w4 U=wE at Be ⊢
     go_wp2_with fail
     go_ret
     exact ⟨by rw [HR2.out,HK2.out];rfl,Be⟩
   ·have n2:(bk==2)=false:=beq_eq_false_iff_ne.2 d2
    replace HK:Hid (kb=(if bk=3 then ow&&!se&&decide (bj < bi)&&lastB l (x0,x1,x2,x3) bi bj else if bk=4 then ow&&se&&decide (bi < bj) else false)):=HK.out.trans (if_neg d2)
    clear d2
    by_cases d3:bk=3
    ·have n3:(bk==3)=true:=by rw [d3];rfl
     obtain ⟨ge,hge⟩:∃ r,decide (bj ≥ bi)=r:=⟨_,rfl⟩
     have hlt:decide (bj < bi)=!ge:=by rw [← hge,← decide_not];exact decide_eq_decide.2 (by omega)
     obtain ⟨r6,g6⟩:∃ r,(x3==[])=r:=⟨_,rfl⟩
     have HK1:Hid (kb=(ow&&!se&&!ge&&(r6 || (o3.isSome&&(((gotO l o3).2.1.2.1 != x1) || (decide ((gotO l o3).1 < bj) || decide ((gotO l o3).1 > bi))))))):=by
      show _=_
      rw [← g6,← hlt]
      have:=lastB_is l (x0,x1,x2,x3) bi bj o3 HW3.out
      simp only at this
      rw [← this]
      exact HK.out.trans (if_pos d3)
     clear HK d3 hlt
     have H:ow=false∨(ow=true∧ge=true)∨(ow=true∧ge=false∧se=true)∨(ow=true∧ge=false∧se=false∧r6=true)∨(ow=true∧ge=false∧se=false∧r6=false):=by cases ow<;>cases ge<;>cases se<;>cases r6<;>simp
     rcases H with rfl | ⟨rfl,rfl⟩ | ⟨rfl,rfl,rfl⟩ | ⟨rfl,rfl,rfl,rfl⟩ | ⟨rfl,rfl,rfl,rfl⟩
     rotate_right
     ·simp only [Bool.not_true,Bool.not_false] at hown hsen
      cases o3 with
      | none =>
        have HK2:Hid (kb=false):=HK1.out
        have HO:Hid (oI none=-1):=rfl
        rw [HO.out]
        go_upto_region 20 with fail
        refine region_far (by kernel_rfl) (by kernel_rfl) ?_
        repeat (first | go_big_quiet_skip | (go_big_quiet_want;go_big_quiet_op;go_big_quiet_on))
        refine wpQuiet_nil ?_
        rintro w' ⟨U,rfl⟩
        have Be:=bel_trans Bd (farW_bel w4 U)
        generalize farW w4 U=wE at Be ⊢
        go_wp2_with fail
        go_ret
        exact ⟨by rw [HR2.out,HK2.out];rfl,Be⟩
      | some m =>
        have hm:=HRow.out m rfl
        have HO:Hid (oI (some m)=(m:Int)):=rfl
        have p5:(m:Int) < (nn:Int):=by have:=HN.out;omega
        have j9:decide ((m:Int) ≥ 0)=true:=decide_eq_true (by omega)
        obtain ⟨u,HU⟩:=HRw.out m hm
        obtain ⟨m0,m1,m2,m5⟩:=HU w4 Bd
        have HG:Hid (gotO l (some m)=l[m]):=pf15_at l m hm
        obtain ⟨⟨qy,⟨q0,q1,q2,q3⟩,qq⟩,hq⟩:∃ x,l[m]=x:=⟨_,rfl⟩
        rw [hq] at HG m0 m1 m2
        simp only at m0 m1 m2
        obtain ⟨nt,hnt⟩:∃ r,(q1 != x1)=r:=⟨_,rfl⟩
        have hnb:(q1==x1)=!nt:=by rw [← hnt];unfold bne;rw [Bool.not_not]
        obtain ⟨lt,hlt⟩:∃ r,decide (qy < bj)=r:=⟨_,rfl⟩
        obtain ⟨gt,hgt⟩:∃ r,decide (qy > bi)=r:=⟨_,rfl⟩
        have HK2:Hid (kb=(nt || (lt || gt))):=by show _=_;rw [HK1.out,HG.out,← hlt,← hnt,← hgt];rfl
        rw [HO.out]
        clear hq HU HG HK1
        have H:nt=true∨(nt=false∧lt=true)∨(nt=false∧lt=false):=by cases nt<;>cases lt<;>simp
        rcases H with rfl | ⟨rfl,rfl⟩ | ⟨rfl,rfl⟩
        all_goals
         simp only [Bool.not_true,Bool.not_false] at hnb
         go_upto_region 20 with fail
         refine region_far (by kernel_rfl) (by kernel_rfl) ?_
         repeat (first | go_big_quiet_skip | (go_big_quiet_want;go_big_quiet_op;go_big_quiet_on))
         refine wpQuiet_nil ?_
         rintro w' ⟨U,rfl⟩
         have Be:=bel_trans Bd (farW_bel w4 U)
         generalize farW w4 U=wE at Be ⊢
         go_wp2_with fail
         go_ret
         exact ⟨by rw [HR2.out,HK2.out];rfl,Be⟩
     all_goals
      (try simp only [Bool.not_true,Bool.not_false] at hown)
      (try simp only [Bool.not_true,Bool.not_false] at hsen)
      go_wp2_with fail
      go_ret
      exact ⟨by rw [HR2.out,HK1.out];first | rfl | (cases se<;>rfl),Bd⟩
    ·have n3:(bk==3)=false:=beq_eq_false_iff_ne.2 d3
     replace HK:Hid (kb=(if bk=4 then ow&&se&&decide (bi < bj) else false)):=HK.out.trans (if_neg d3)
     clear d3
     by_cases d4:bk=4
     ·have n4:(bk==4)=true:=by rw [d4];rfl
      obtain ⟨gt,hgt⟩:∃ r,decide (bj > bi)=r:=⟨_,rfl⟩
      have HK1:Hid (kb=(ow&&se&&gt)):=by show _=_;rw [← hgt];exact HK.out.trans (if_pos d4)
      clear HK d4
      have H:ow=false∨(ow=true∧gt=false)∨(ow=true∧gt=true):=by cases ow<;>cases gt<;>simp
      rcases H with rfl | ⟨rfl,rfl⟩ | ⟨rfl,rfl⟩
      all_goals
       go_wp2_with fail
       go_ret
       exact ⟨by rw [HR2.out,HK1.out];cases se<;>rfl,Bd⟩
     ·have n4:(bk==4)=false:=beq_eq_false_iff_ne.2 d4
      have HK1:Hid (kb=false):=HK.out.trans (if_neg d4)
      clear HK d4
      go_wp2_with fail
      go_ret
      exact ⟨by rw [HR2.out,HK1.out];rfl,Bd⟩
 all_goals
  (try simp only [Bool.not_true] at g5b)
  refine region_far (by kernel_rfl) (by kernel_rfl) ?_
  repeat (first | go_big_quiet_skip | (go_big_quiet_want;go_big_quiet_op;first | go_big_quiet_on | go_big_quiet_call (first | (go_at_call 45;exact calls_far (HCZ.out _ (bel_trans Bc (farW_bel _ _)))))))
  refine wpQuiet_nil ?_
  rintro w' ⟨U,rfl⟩
  have B1:=bel_trans Bc (farW_bel wc U)
  generalize farW wc U=wB at B1 ⊢
  go_wp2_with fail
  go_ret
  exact ⟨by rw [HRR.out];rfl,B1⟩
end Go.Proofs.YthamoeekiglphaaGreatDoor
