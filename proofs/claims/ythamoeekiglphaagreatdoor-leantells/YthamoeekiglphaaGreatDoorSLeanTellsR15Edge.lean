/-
  What cartoucheref15.Edge answers.
-/
import Derived.Test.YthamoeekiglphaaGreatDoorSLeanTellsL0a
import Derived.Test.YthamoeekiglphaaGreatDoorCL0e
namespace Go.Proofs.YthamoeekiglphaaGreatDoor
set_option maxRecDepth 100000
open Go.RowKit
set_option linter.unusedVariables false
attribute [local go_sem] ba_size farW_cell
theorem kindE_zx (l:List Pf) (e:Ed) (y:Ev):kindE l e (0,0,[],[]) y=false:=by
 unfold kindE
 simp only [show decide (((0,0,[],[]):Ev).1=3)=false from rfl,show decide (((0,0,[],[]):Ev).1=2)=false from rfl,Bool.false_and]
 simp
theorem kindE_zy (l:List Pf) (e:Ed) (x:Ev):kindE l e x (0,0,[],[])=false:=by
 unfold kindE
 simp only [show decide (((0,0,[],[]):Ev).1=3)=false from rfl,show decide (((0,0,[],[]):Ev).1=2)=false from rfl,Bool.and_false,Bool.false_and]
 simp
theorem edgeR_none1 (l:List Pf) (e:Ed) (h:fp (pAt e.2.2.2.1) l=none):edgeB l e=false:=by
 have q:evP l e.2.2.2.1=(0,0,[],[]):=by unfold evP;rw [h];rfl
 unfold edgeB
 rw [q,kindE_zx,Bool.and_false]
theorem edgeR_none2 (l:List Pf) (e:Ed) (h:fp (pAt e.2.2.2.2) l=none):edgeB l e=false:=by
 have q:evP l e.2.2.2.2=(0,0,[],[]):=by unfold evP;rw [h];rfl
 unfold edgeB
 rw [q,kindE_zy,Bool.and_false]
theorem evR_some (l:List Pf) (i:Int) (k:Nat) (h:fp (pAt i) l=some k):evP l i=(pf15 l k).2.1:=by unfold evP;rw [h];rfl
theorem edgeR_is (l:List Pf) (k F T i j:Int) (X Y:Ev) (h1:evP l i=X) (h2:evP l j=Y):edgeB l (k,F,T,i,j)=(!(F==T)&&(!decide (comP l F < 0)&&(!decide (comP l T < 0)&&((X.2.1==F)&&((Y.2.1==T)&&((X.2.2.1==Y.2.2.1) &&
 (if k=1 then (X.1==3)&&(Y.1==3)&&decide (comP l F < comP l T) else if k=2 then (X.1==3)&&(Y.1==2)&&(X.2.2.2==Y.2.2.2) else if k=3 then (X.1==2)&&(Y.1==3)&&aheadP l X (comP l T) else false))))))):=by
 have e0:edgeB l (k,F,T,i,j)=(decide (F≠T)&&decide (0≤comP l F)&&decide (0≤comP l T)&&decide (X.2.1=F)&&decide (Y.2.1=T)&&decide (X.2.2.1=Y.2.2.1)&&kindE l (k,F,T,i,j) X Y):=by rw [← h1,← h2];rfl
 rw [e0]
 have d1:decide (F≠T)=!(F==T):=by by_cases h:F=T<;>simp [h]
 have d4:decide (X.2.1=F)=(X.2.1==F):=rfl
 have d5:decide (Y.2.1=T)=(Y.2.1==T):=rfl
 have d2:decide (0≤comP l F)=!decide (comP l F < 0):=by rw [← decide_not];exact decide_eq_decide.2 (by omega)
 have d3:decide (0≤comP l T)=!decide (comP l T < 0):=by rw [← decide_not];exact decide_eq_decide.2 (by omega)
 rw [d1,d2,d3,d4,d5,dec_beq15]
 simp only [Bool.and_assoc]
 unfold kindE
 rw [dec_beq15]
 simp only [Bool.and_assoc]
 rfl
theorem aheadR_is (l:List Pf) (x:Ev) (tt:Int) (o:Option Nat) (ho:wrP l x.2.2.1 x.2.2.2=o):aheadP l x tt=((x.2.2.2==[]) || (o.isSome&&(decide (comP l (gotO l o).2.1.2.1 ≥ 0)&&decide (comP l (gotO l o).2.1.2.1 < tt)))):=by
 unfold aheadP
 rw [ho,dec_beq15]
 cases o with
 | none=>rfl
 | some k=>rfl
set_option maxHeartbeats 16000000 in
theorem redge15_any (l:List Pf) (v:Value) (w:World) (hP:IsPfs w v l) (ek ef et ei ej:Int) :
 Calls Tryz.prog 18 #[v,.agg #[.int .i64 ek,.int .i64 ef,.int .i64 et,.int .i64 ei,.int .i64 ej]] w fun e w'=>e=.returned (.bool (edgeB l (ek,ef,et,ei,ej)))∧Below w.heap.size w w':=by
 have CA:=Lib.hid (fun (i:Int) V (hV:Below w.heap.size w V)=>rat15_any l v V (hP.below hV) i)
 have CC0:=fun (t:Int) V (hV:Below w.heap.size w V)=>rcom15_any l v V (hP.below hV) t
 have CW0:=fun (key val:List UInt8) V (hV:Below w.heap.size w V)=>rwrit15_any l v V (hP.below hV) key val
 have HN1:=Lib.hid (edgeR_none1 l (ek,ef,et,ei,ej))
 have HN2:=Lib.hid (edgeR_none2 l (ek,ef,et,ei,ej))
 have HS1:=Lib.hid (evR_some l ei)
 have HS2:=Lib.hid (evR_some l ej)
 have HLt:=Lib.hid (fun (f:Pf→Bool) (k:Nat) (h:fp f l=some k)=>fp_lt h)
 have HLow:Hid (edgeB l (ek,ef,et,ei,ej)=(!(ef==et)&&(!decide (comP l ef < 0)&&(!decide (comP l et < 0)&&edgeB l (ek,ef,et,ei,ej))))):=by
  show _=_
  rw [edgeR_is l ek ef et ei ej _ _ rfl rfl]
  cases (ef==et)<;>cases decide (comP l ef < 0)<;>cases decide (comP l et < 0)<;>rfl
 have HB:Hid (∀ X Y,evP l ei=X→evP l ej=Y→edgeB l (ek,ef,et,ei,ej)=(!(ef==et)&&(!decide (comP l ef < 0)&&(!decide (comP l et < 0)&&((X.2.1==ef)&&((Y.2.1==et)&&((X.2.2.1==Y.2.2.1)&&(if ek=1 then (X.1==3)&&(Y.1==3)&&decide (comP l ef < comP l et) else if ek=2 then (X.1==3)&&(Y.1==2)&&(X.2.2.2==Y.2.2.2) else if ek=3 then (X.1==2)&&(Y.1==3)&&aheadP l X (comP l et) else false)))))))):=fun X Y h1 h2=>edgeR_is l ek ef et ei ej X Y h1 h2
 obtain ⟨a,cap,rfl,k1,k2,k3,HC⟩:=hP.reads
 obtain ⟨nn,hn⟩:∃ n,l.length=n:=⟨_,rfl⟩
 have HN:=Lib.hid hn
 simp only [hn] at CA CC0 CW0 ⊢
 rw [hn] at k1 k3
 have CC:=Lib.hid CC0
 have CW:=Lib.hid CW0
 obtain ⟨rr,hrr⟩:∃ r,edgeB l (ek,ef,et,ei,ej)=r:=⟨_,rfl⟩
 rw [hrr] at HN1 HN2 HLow HB ⊢
 obtain ⟨o1,ho1⟩:∃ o,fp (pAt ei) l=o:=⟨_,rfl⟩
 obtain ⟨o2,ho2⟩:∃ o,fp (pAt ej) l=o:=⟨_,rfl⟩
 have D1:=fun V hV=>CA.out ei V hV
 have D2:=fun V hV=>CA.out ej V hV
 rw [ho1] at D1
 rw [ho2] at D2
 simp only at HN1 HN2
 rw [ho1] at HN1
 rw [ho2] at HN2
 obtain ⟨zf,hzf⟩:∃ z,comP l ef=z:=⟨_,rfl⟩
 obtain ⟨zt,hzt⟩:∃ z,comP l et=z:=⟨_,rfl⟩
 have D3:=fun V hV=>CC.out ef V hV
 have D4:=fun V hV=>CC.out et V hV
 rw [hzf] at D3 HLow HB
 rw [hzt] at D4 HLow HB
 have HZ:=Lib.hid hzt
 have HD2:=Lib.hid D2
 have HD3:=Lib.hid D3
 have HD4:=Lib.hid D4
 have H1:=Lib.hid ho1
 have H2:=Lib.hid ho2
 have X0:=SBox.new w 32 #[.int .i64 ek,.int .i64 ef,.int .i64 et,.int .i64 ei,.int .i64 ej]
 have B0:=(Below.refl w.heap.size w).alloc (Nat.le_refl _) (.cells #[.int .i64 ek,.int .i64 ef,.int .i64 et,.int .i64 ei,.int .i64 ej] 32)
 have D1':=D1 _ B0
 have e0:=X0.cell 0 _ rfl
 have e1:=X0.cell 1 _ rfl
 have e2:=X0.cell 2 _ rfl
 have e3:=X0.cell 3 _ rfl
 have e4:=X0.cell 4 _ rfl
 clear CC0 CW0 hn hP hrr D1 D2 D3 D4 CA ho1 ho2 hzf hzt
 go_enter Tryz.func18,Tryz.ntmps18
 go_wp2_with fail
 refine D1'.mono ?_
 rintro e w1 ⟨rfl,b1⟩
 have B1:=bel_trans B0 b1
 have X1:=X0.below b1
 have D2':=HD2.out _ B1
 clear e0 e1 e2 e3 e4 X0 B0 b1 D1' HD2
 have e0:=X1.cell 0 _ rfl
 have e1:=X1.cell 1 _ rfl
 have e2:=X1.cell 2 _ rfl
 have e3:=X1.cell 3 _ rfl
 have e4:=X1.cell 4 _ rfl
 go_wp2_with fail
 refine D2'.mono ?_
 rintro e w2 ⟨rfl,b2⟩
 have B2:=bel_trans B1 b2
 have X2:=X1.below b2
 have D3':=HD3.out _ B2
 clear e0 e1 e2 e3 e4 X1 B1 b2 D2' HD3
 have e0:=X2.cell 0 _ rfl
 have e1:=X2.cell 1 _ rfl
 have e2:=X2.cell 2 _ rfl
 have e3:=X2.cell 3 _ rfl
 have e4:=X2.cell 4 _ rfl
 go_wp2_with fail
 refine D3'.mono ?_
 rintro e w3 ⟨rfl,b3⟩
 have B3:=bel_trans B2 b3
 have X3:=X2.below b3
 have D4':=HD4.out _ B3
 clear e0 e1 e2 e3 e4 X2 B2 b3 D3' HD4
 have e0:=X3.cell 0 _ rfl
 have e1:=X3.cell 1 _ rfl
 have e2:=X3.cell 2 _ rfl
 have e3:=X3.cell 3 _ rfl
 have e4:=X3.cell 4 _ rfl
 go_wp2_with fail
 refine D4'.mono ?_
 rintro e w4 ⟨rfl,b4⟩
 have B4:=bel_trans B3 b4
 have X4:=X3.below b4
 clear e0 e1 e2 e3 e4 X3 B3 b4 D4'
 have e0:=X4.cell 0 _ rfl
 have e1:=X4.cell 1 _ rfl
 have e2:=X4.cell 2 _ rfl
 have e3:=X4.cell 3 _ rfl
 have e4:=X4.cell 4 _ rfl
 cases o1 with
 | none =>
   have HF:Hid (rr=false):=HN1.out rfl
   have HO:Hid (oI none=-1):=rfl
   rw [HO.out]
   go_wp2_with fail
   go_ret
   exact ⟨by rw [HF.out];rfl,B4⟩
 | some i =>
 cases o2 with
 | none =>
   have HF:Hid (rr=false):=HN2.out rfl
   have HO:Hid (oI none=-1):=rfl
   have HO2:Hid (oI (some i)=(i:Int)):=rfl
   have j1:decide ((i:Int) < 0)=false:=decide_eq_false (by omega)
   rw [HO.out,HO2.out]
   go_wp2_with fail
   go_ret
   exact ⟨by rw [HF.out];rfl,B4⟩
 | some k =>
 have HO1:Hid (oI (some i)=(i:Int)):=rfl
 have HO2:Hid (oI (some k)=(k:Int)):=rfl
 have j1:decide ((i:Int) < 0)=false:=decide_eq_false (by omega)
 have j2:decide ((k:Int) < 0)=false:=decide_eq_false (by omega)
 rw [HO1.out,HO2.out]
 obtain ⟨r1,g1⟩:∃ r,(ef==et)=r:=⟨_,rfl⟩
 obtain ⟨r2,g2⟩:∃ r,decide (zf < 0)=r:=⟨_,rfl⟩
 obtain ⟨r3,g3⟩:∃ r,decide (zt < 0)=r:=⟨_,rfl⟩
 have HLw:Hid (rr=(!r1&&(!r2&&(!r3&&rr)))):=by show rr=_;rw [← g1,← g2,← g3];exact HLow.out
 have H:r1=true∨(r1=false∧r2=true)∨(r1=false∧r2=false∧r3=true)∨(r1=false∧r2=false∧r3=false):=by cases r1<;>cases r2<;>cases r3<;>simp
 rcases H with rfl | ⟨rfl,rfl⟩ | ⟨rfl,rfl,rfl⟩ | ⟨rfl,rfl,rfl⟩
 rotate_right
 ·have hil:=HLt.out _ i H1.out
  have hkl:=HLt.out _ k H2.out
  have p1:(i:Int) < (nn:Int):=by have:=HN.out;omega
  have p2:(k:Int) < (nn:Int):=by have:=HN.out;omega
  obtain ⟨bb,off,rfl,ui,hui,HQi⟩:=HC.out i hil
  obtain ⟨bb2,off2,hbe,uk,huk,HQk⟩:=HC.out k hkl
  obtain ⟨rfl,rfl⟩:bb=bb2∧off=off2:=by injection hbe with h;injection h with h1 h2;exact ⟨h1,h2⟩
  have HX:Hid (evP l ei=l[i].2.1):=(HS1.out i H1.out).trans (by rw [pf15_at l i hil])
  have HY:Hid (evP l ej=l[k].2.1):=(HS2.out k H2.out).trans (by rw [pf15_at l k hkl])
  have HRw:Hid (∀ m (hm:m < l.length),∃ u,∀ V,Below w.heap.size w V→V.cell? ⟨bb,off+m*6,none⟩=some (.int .i64 l[m].1)∧V.cell? ⟨bb,off+m*6+1,none⟩=some (.int .i64 l[m].2.1.1)∧V.cell? ⟨bb,off+m*6+2,none⟩=some (.int .i64 l[m].2.1.2.1)∧V.cell? ⟨bb,off+m*6+5,none⟩=some u):=fun m hm=>by
   obtain ⟨b9,o9,h9,u9,_,H9⟩:=HC.out m hm
   injection h9 with h;injection h with h1 h2
   subst h1 h2
   refine ⟨u9,fun V hV=>?_⟩
   obtain ⟨q0,q1,q2,_,_,q5⟩:=H9 V hV
   exact ⟨q0,q1,q2,q5⟩
  obtain ⟨c0,c1,c2,c3,c4,_⟩:=HQi w4 B4
  have HQk1:=Lib.hid HQk
  obtain ⟨⟨iy,⟨x0,x1,x2,x3⟩,iq⟩,hx⟩:∃ x,l[i]=x:=⟨_,rfl⟩
  obtain ⟨⟨ky,⟨y0,y1,y2,y3⟩,kq⟩,hy⟩:∃ x,l[k]=x:=⟨_,rfl⟩
  rw [hx] at HX c0 c1 c2 c3 c4
  rw [hy] at HY HQk1
  simp only at HX HY c0 c1 c2 c3 c4
  obtain ⟨r4,g4⟩:∃ r,(x1==ef)=r:=⟨_,rfl⟩
  obtain ⟨r5,g5⟩:∃ r,(y1==et)=r:=⟨_,rfl⟩
  obtain ⟨r6,g6⟩:∃ r,(x2==y2)=r:=⟨_,rfl⟩
  have n4:(x1 != ef)=!r4:=by rw [← g4];rfl
  have n5:(y1 != et)=!r5:=by rw [← g5];rfl
  have n6:(x2 != y2)=!r6:=by rw [← g6];rfl
  have HR0:Hid (rr=(r4&&(r5&&(r6&&(if ek=1 then (x0==3)&&(y0==3)&&decide (zf < zt) else if ek=2 then (x0==3)&&(y0==2)&&(x3==y3) else if ek=3 then (x0==2)&&(y0==3)&&aheadP l (x0,x1,x2,x3) zt else false))))):=by
   have:=HB.out _ _ HX.out HY.out
   simp only [g1,g2,g3,g4,g5,g6,Bool.not_false,Bool.true_and] at this
   exact this
  clear hx hy hui huk HQi HQk hbe HB HS1 HS2 HN1 HN2 HLow HLw HX HY
  have A3:=B4.alloc B4.size (.cells #[.int .i64 x0,.int .i64 x1,.string ⟨x2.toArray⟩,.string ⟨x3.toArray⟩] 53)
  obtain ⟨d0,d1,d2,d3,d4,_⟩:=HQk1.out _ A3
  simp only at d0 d1 d2 d3 d4
  have E:TwoE w ((w4.alloc (.cells #[.int .i64 x0,.int .i64 x1,.string ⟨x2.toArray⟩,.string ⟨x3.toArray⟩] 53)).alloc (.cells #[.int .i64 y0,.int .i64 y1,.string ⟨y2.toArray⟩,.string ⟨y3.toArray⟩] 53)) 32 #[.int .i64 ek,.int .i64 ef,.int .i64 et,.int .i64 ei,.int .i64 ej] w4.heap.size (w4.heap.size+1) (x0,x1,x2,x3) (y0,y1,y2,y3) :=
   ⟨A3.alloc A3.size _,(X4.alloc _).alloc _,(SBox.new w4 _ _).alloc _,by have:=SBox.new (w4.alloc (.cells #[.int .i64 x0,.int .i64 x1,.string ⟨x2.toArray⟩,.string ⟨x3.toArray⟩] 53)) 53 #[.int .i64 y0,.int .i64 y1,.string ⟨y2.toArray⟩,.string ⟨y3.toArray⟩];rw [World.size_alloc] at this;exact this⟩
  have HE0:=Lib.hid E
  clear E A3 X4
  go_upto_region 9 with fail
  (try simp only [World.size_alloc])
  have E:=HE0.out
  generalize (w4.alloc (.cells #[.int .i64 x0,.int .i64 x1,.string ⟨x2.toArray⟩,.string ⟨x3.toArray⟩] 53)).alloc (.cells #[.int .i64 y0,.int .i64 y1,.string ⟨y2.toArray⟩,.string ⟨y3.toArray⟩] 53)=wc at E ⊢
  generalize w4.heap.size=bx at E ⊢
  clear HE0 c0 c1 c2 c3 c4 d0 d1 d2 d3 d4 e0 e1 e2 e3 e4 HQk1 B4 g1 g2 g3
  obtain ⟨cy,hcy⟩:∃ z,bx+1=z:=⟨_,rfl⟩
  rw [hcy] at E ⊢
  clear hcy
  have HE:=Lib.hid E
  have e0:=E.bx.cell 0 _ rfl
  have e1:=E.bx.cell 1 _ rfl
  have e2:=E.bx.cell 2 _ rfl
  have e3:=E.bx.cell 3 _ rfl
  have e4:=E.bx.cell 4 _ rfl
  have xx0:=E.x5.cell 0 _ rfl
  have xx1:=E.x5.cell 1 _ rfl
  have xx2:=E.x5.cell 2 _ rfl
  have xx3:=E.x5.cell 3 _ rfl
  have yy0:=E.x6.cell 0 _ rfl
  have yy1:=E.x6.cell 1 _ rfl
  have yy2:=E.x6.cell 2 _ rfl
  have yy3:=E.x6.cell 3 _ rfl
  have Bd:=E.bel
  clear E
  have H:r4=false∨(r4=true∧r5=false)∨(r4=true∧r5=true∧r6=false)∨(r4=true∧r5=true∧r6=true):=by cases r4<;>cases r5<;>cases r6<;>simp
  rcases H with rfl | ⟨rfl,rfl⟩ | ⟨rfl,rfl,rfl⟩ | ⟨rfl,rfl,rfl⟩
  rotate_right
  ·simp only [Bool.not_true] at n4 n5 n6
   have HK:Hid (rr=(if ek=1 then (x0==3)&&(y0==3)&&decide (zf < zt) else if ek=2 then (x0==3)&&(y0==2)&&(x3==y3) else if ek=3 then (x0==2)&&(y0==3)&&aheadP l (x0,x1,x2,x3) zt else false)):=HR0.out
   clear HR0
   obtain ⟨s3,h3⟩:∃ r,(x0==3)=r:=⟨_,rfl⟩
   obtain ⟨s2,h2⟩:∃ r,(x0==2)=r:=⟨_,rfl⟩
   obtain ⟨u3,f3⟩:∃ r,(y0==3)=r:=⟨_,rfl⟩
   obtain ⟨u2,f2⟩:∃ r,(y0==2)=r:=⟨_,rfl⟩
   obtain ⟨lt,flt⟩:∃ r,decide (zf < zt)=r:=⟨_,rfl⟩
   obtain ⟨ve,fve⟩:∃ r,(x3==y3)=r:=⟨_,rfl⟩
   have m2b:(x0 != 2)=!s2:=by rw [← h2];rfl
   have m3b:(y0 != 3)=!u3:=by rw [← f3];rfl
   rw [h3,h2,f3,f2,flt,fve] at HK
   by_cases d1:ek=1
   ·have n1:(ek==1)=true:=by rw [d1];rfl
    have HK1:Hid (rr=(s3&&u3&&lt)):=HK.out.trans (if_pos d1)
    clear HK d1 h2 m2b m3b
    cases s3<;>cases u3
    all_goals
     go_wp2_with fail
     go_ret
     exact ⟨by rw [HK1.out];rfl,Bd⟩
   ·have n1:(ek==1)=false:=beq_eq_false_iff_ne.2 d1
    replace HK:Hid (rr=(if ek=2 then s3&&u2&&ve else if ek=3 then s2&&u3&&aheadP l (x0,x1,x2,x3) zt else false)):=HK.out.trans (if_neg d1)
    clear d1
    by_cases d2:ek=2
    ·have n2:(ek==2)=true:=by rw [d2];rfl
     have HK1:Hid (rr=(s3&&u2&&ve)):=HK.out.trans (if_pos d2)
     clear HK d2 h2 m2b m3b
     cases s3<;>cases u2
     all_goals
      go_wp2_with fail
      go_ret
      exact ⟨by rw [HK1.out];rfl,Bd⟩
    ·have n2:(ek==2)=false:=beq_eq_false_iff_ne.2 d2
     replace HK:Hid (rr=(if ek=3 then s2&&u3&&aheadP l (x0,x1,x2,x3) zt else false)):=HK.out.trans (if_neg d2)
     clear d2
     by_cases d3:ek=3
     ·have n3:(ek==3)=true:=by rw [d3];rfl
      have n3n:(ek != 3)=false:=by rw [d3];rfl
      have HK1:Hid (rr=(s2&&u3&&aheadP l (x0,x1,x2,x3) zt)):=HK.out.trans (if_pos d3)
      clear HK d3
      have H:s2=false∨(s2=true∧u3=false)∨(s2=true∧u3=true):=by cases s2<;>cases u3<;>simp
      rcases H with rfl | ⟨rfl,rfl⟩ | ⟨rfl,rfl⟩
      ·simp only [Bool.not_false] at m2b
       go_wp2_with fail
       go_ret
       exact ⟨by rw [HK1.out];rfl,Bd⟩
      ·simp only [Bool.not_true,Bool.not_false] at m2b m3b
       go_wp2_with fail
       go_ret
       exact ⟨by rw [HK1.out];rfl,Bd⟩
      ·simp only [Bool.not_true] at m2b m3b
       obtain ⟨o3,ho3⟩:∃ o,fp (pWr x2 x3) l=o:=⟨_,rfl⟩
       have D5:=CW.out x2 x3 _ Bd
       rw [ho3] at D5
       have HRow:Hid (∀ m,o3=some m→m < l.length):=fun m h=>HLt.out _ m (ho3.trans h)
       have HK2:Hid (rr=((x3==[]) || (o3.isSome&&(decide (comP l (gotO l o3).2.1.2.1 ≥ 0)&&decide (comP l (gotO l o3).2.1.2.1 < zt))))):=by
        show _=_
        rw [HK1.out]
        exact aheadR_is l (x0,x1,x2,x3) zt o3 ho3
       clear HK1 ho3 CW
       obtain ⟨em,hem⟩:∃ r,(x3==[])=r:=⟨_,rfl⟩
       rw [hem] at HK2
       cases em with
       | true =>
         go_wp2_with fail
         go_ret
         exact ⟨by rw [HK2.out];rfl,Bd⟩
       | false =>
         go_upto_region 19 with fail
         go_wp2_with fail
         refine D5.mono ?_
         rintro e w6 ⟨rfl,b6⟩
         have E6:=HE.out.below b6
         clear e0 e1 e2 e3 e4 xx0 xx1 xx2 xx3 yy0 yy1 yy2 yy3 D5 b6 HE Bd
         have e0:=E6.bx.cell 0 _ rfl
         have e1:=E6.bx.cell 1 _ rfl
         have e2:=E6.bx.cell 2 _ rfl
         have e3:=E6.bx.cell 3 _ rfl
         have e4:=E6.bx.cell 4 _ rfl
         have xx0:=E6.x5.cell 0 _ rfl
         have xx1:=E6.x5.cell 1 _ rfl
         have xx2:=E6.x5.cell 2 _ rfl
         have xx3:=E6.x5.cell 3 _ rfl
         have yy0:=E6.x6.cell 0 _ rfl
         have yy1:=E6.x6.cell 1 _ rfl
         have yy2:=E6.x6.cell 2 _ rfl
         have yy3:=E6.x6.cell 3 _ rfl
         have Bd:=E6.bel
         have HE6:=Lib.hid E6
         clear E6
         cases o3 with
         | none =>
           have HK3:Hid (rr=false):=HK2.out
           have HO:Hid (oI none=-1):=rfl
           rw [HO.out]
           go_upto_region 20 with fail
           refine region_far (by kernel_rfl) (by kernel_rfl) ?_
           repeat (first | go_big_quiet_skip | (go_big_quiet_want;go_big_quiet_op;go_big_quiet_on))
           refine wpQuiet_nil ?_
           rintro w' ⟨U,rfl⟩
           have Be:=bel_trans Bd (farW_bel w6 U)
           generalize farW w6 U=wE at Be ⊢
           go_wp2_with fail
           go_ret
           exact ⟨by rw [HK3.out];rfl,Be⟩
         | some m =>
           have hm:=HRow.out m rfl
           have HO:Hid (oI (some m)=(m:Int)):=rfl
           have p5:(m:Int) < (nn:Int):=by have:=HN.out;omega
           have j9:decide ((m:Int) < 0)=false:=decide_eq_false (by omega)
           have HUm:=Lib.hid (HRw.out m hm)
           have HG:Hid (gotO l (some m)=l[m]):=pf15_at l m hm
           obtain ⟨⟨qy,⟨q0,q1,q2,q3⟩,qq⟩,hq⟩:∃ x,l[m]=x:=⟨_,rfl⟩
           rw [hq] at HG HUm
           simp only at HUm
           obtain ⟨u,HU⟩:=HUm.out
           have HU1:=Lib.hid HU
           obtain ⟨m0,m1,m2,m5⟩:=HU w6 Bd
           obtain ⟨zm,hzm⟩:∃ z,comP l q1=z:=⟨_,rfl⟩
           have HK3:Hid (rr=(decide (zm ≥ 0)&&decide (zm < zt))):=by show _=_;rw [HK2.out,HG.out,← hzm];rfl
           have DZ:=fun V hV=>CC.out q1 V hV
           rw [hzm] at DZ
           have HDZ:=Lib.hid DZ
           have HZT:Hid (comP l et=zt):=HZ.out
           obtain ⟨te,hte⟩:∃ r,(q1==et)=r:=⟨_,rfl⟩
           have HTe:Hid (te=true→rr=false):=fun h=>by
            have e9:q1=et:=beq_iff_eq.1 (hte.trans h)
            have:zm=zt:=by rw [← hzm,e9];exact HZT.out
            rw [HK3.out,this,decide_eq_false (show ¬ zt < zt by omega),Bool.and_false]
           rw [HO.out]
           clear hq HU HUm HG HK2 hzm DZ CC
           go_upto_region 20 with fail
           refine region_far (by kernel_rfl) (by kernel_rfl) ?_
           repeat (first | go_big_quiet_skip | (go_big_quiet_want;go_big_quiet_op;go_big_quiet_on))
           refine wpQuiet_nil ?_
           rintro w' ⟨U,rfl⟩
           have Be:=bel_trans Bd (farW_bel w6 U)
           generalize farW w6 U=wE at Be ⊢
           cases te with
           | true =>
             have HF:Hid (rr=false):=HTe.out (by first | rfl | trivial)
             go_wp2_with fail
             go_ret
             exact ⟨by rw [HF.out];rfl,Be⟩
           | false =>
             clear m0 m1 m2 m5
             obtain ⟨m0,m1,m2,m5⟩:=HU1.out wE Be
             have DZ:=HDZ.out _ Be
             obtain ⟨ge,hge⟩:∃ r,decide (zm ≥ 0)=r:=⟨_,rfl⟩
             rw [hge] at HK3
             go_wp2_with fail
             refine DZ.mono ?_
             rintro e w7 ⟨rfl,b7⟩
             cases ge
             all_goals
              go_wp2_with fail
              go_ret
              exact ⟨by rw [HK3.out];rfl,bel_trans Be b7⟩
     ·have n3:(ek==3)=false:=beq_eq_false_iff_ne.2 d3
      have n3n:(ek != 3)=true:=bne_iff_ne.2 d3
      have HK1:Hid (rr=false):=HK.out.trans (if_neg d3)
      clear HK d3
      go_wp2_with fail
      go_ret
      exact ⟨by rw [HK1.out];rfl,Bd⟩
  all_goals
   (try simp only [Bool.not_true,Bool.not_false] at n4)
   (try simp only [Bool.not_true,Bool.not_false] at n5)
   (try simp only [Bool.not_false] at n6)
   go_wp2_with fail
   go_ret
   exact ⟨by rw [HR0.out];rfl,Bd⟩
 all_goals
  have HF:Hid (rr=false):=HLw.out
  go_wp2_with fail
  go_ret
  exact ⟨by rw [HF.out];rfl,B4⟩
end Go.Proofs.YthamoeekiglphaaGreatDoor
