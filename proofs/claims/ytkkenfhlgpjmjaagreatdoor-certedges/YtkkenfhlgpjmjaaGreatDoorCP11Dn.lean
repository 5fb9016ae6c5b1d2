/-
  The library's heap at the heap of numbers that ring.Order keeps: a number goes down; put in, taken out.
-/
import Derived.Test.YtkkenfhlgpjmjaaGreatDoorCL0c
namespace Go.Proofs.YtkkenfhlgpjmjaaGreatDoor
set_option maxRecDepth 100000
open Go.RowKit
set_option linter.unusedVariables false
attribute [local go_sem] ba_size
def IsB (e:Ending):Prop:=∃ bo:Bool,e=.returned (.bool bo)
theorem swL_keep (a:List Int) (i j n:Nat) (hi:i < n) (hj:j < n) (hn:n < a.length):hg (swL a i j) n=hg a n:=by
 rw [swL_at a i j n (by omega) (by omega),if_neg (by omega),if_neg (by omega)]
set_option maxHeartbeats 8000000 in
theorem pdown11_any (W:World) (B bn:Nat) (a:List Int) (n:Nat) (hl:a.length=n+1) (h:HpS W B bn a) (hU:DownI a 0 n) (hn:n < 17592186044416) :
 Calls Tryz.prog 287 #[ifR bn,.int .i64 0,.int .i64 (n:Int)] W fun e W'=>IsB e∧(∃ b,HpS W' B bn b∧b.Perm a∧HeapN b n∧hg b n=hg a n)∧Fr B bn W W':=by
 have HLen:Hid (a.length=n+1):=hl
 have HUp:Hid (DownI a 0 n):=hU
 have HH:Hid (HpS W B bn a):=h
 clear hl hU h
 go_enter Tryz.func287,Tryz.ntmps287
 go_wp2_with fail
 go_loopw [7] (fun jv wr=>∃ (i:Nat) (b:List Int),jv=.int .i64 (i:Int)∧i≤n∧Hid (b.length=n+1)∧Hid (HpS wr B bn b)∧Hid (b.Perm a)∧Hid (DownI b i n)∧Hid (hg b n=hg a n)∧Fr B bn W wr) (fun jv _=>n - (RowKit.intOf jv).toNat)
 case atStart=>exact ⟨0,a,rfl,Nat.zero_le _,HLen,HH,List.Perm.refl _,HUp,rfl,Fr.refl _ _ _⟩
 case round =>
  obtain ⟨i,b,rfl,hi,HL,HS,HP,HI,HK,hbw⟩:=hrel
  have z1:IntKind.i64.wrap (2*(i:Int))=2*(i:Int):=by rw [IntKind.wrap_i64];omega
  have z2:IntKind.i64.wrap (2*(i:Int)+1)=2*(i:Int)+1:=by rw [IntKind.wrap_i64];omega
  by_cases c1:2*i+1 < n
  ·have hl1:=HL.out
   obtain ⟨g,cp,hB,hb,hr,hBg,hgne⟩:=HS.out.row (by omega)
   have p0:=hb.cell
   have q1:=nil_less bn wr
   have q2:=m_less bn wr p0
   have d1:decide (2*(i:Int)+1 ≥ (n:Int))=false:=by simp;omega
   have d2:decide (2*(i:Int)+1 < 0)=false:=by simp;omega
   have d3:¬ ((n:Int)≤2*(i:Int)+1):=by omega
   have d4:¬ (2*(i:Int)+1 < 0):=by omega
   have HRr:Hid (HRow wr B g cp b):=hr
   have HBx:Hid (Boxed wr bn tR (.slice (some ⟨g,0,none⟩) b.length cp)):=hb
   have z3:IntKind.i64.wrap (2*(i:Int)+1+1)=2*(i:Int)+2:=by rw [IntKind.wrap_i64];omega
   have z4:2*(i:Int)+1+1=2*(i:Int)+2:=by omega
   by_cases c2:2*i+2 < n
   ·have c2':2*(i:Int)+2 < (n:Int):=by omega
    have CA:=pless11_any wr B g cp b hr (2*i+2) (2*i+1) (by omega) (by omega) (by omega)
    have eA:((2*i+2:Nat):Int)=2*(i:Int)+2:=by omega
    have eB:((2*i+1:Nat):Int)=2*(i:Int)+1:=by omega
    rw [eA,eB] at CA
    clear eA eB
    by_cases c3:hg b (2*i+2) < hg b (2*i+1)
    ·rw [decide_eq_true c3] at CA
     have HLc:Hid (LeastC b i (2*i+2) n):=leastC_two c2 c3
     rw [hl1] at q2 CA p0
     clear c3 hb hr
     go_wp2_with fail
     refine CA.mono ?_
     rintro e w1 ⟨rfl,b1⟩
     have HX1:Hid (Boxed w1 bn tR (.slice (some ⟨g,0,none⟩) b.length cp)):=boxed_below7 HBx.out b1
     have HR1:Hid (HRow w1 B g cp b):=HRr.out.kept (grown_below8 none b1) (by simp [Value.ownBlock])
     have HS1:Hid (HpS w1 B bn b):=HS.out.bel b1
     have B1:Fr B bn W w1:=hbw.andBelow b1 (by have:=HBx.out.lt;omega) HBx.out.lt
     clear CA
     have HC:Hid (LeastC b i (2*i+2) n):=HLc.out
     have q5:=nil_less bn w1
     have q6:=m_less bn w1 (HX1.out.cell)
     have CJ:=pless11_any w1 B g cp b HR1.out (2*i+2) i (by omega) (by omega) (by omega)
     have eJ:((2*i+2:Nat):Int)=2*(i:Int)+2:=by omega
     rw [eJ] at CJ
     by_cases hlt:hg b (2*i+2) < hg b i
     ·rw [decide_eq_true hlt] at CJ
      have HI2:Hid (DownI (swL b i (2*i+2)) (2*i+2) n):=downI_step HI.out (by omega) HC.out hlt
      have HP2:Hid ((swL b i (2*i+2)).Perm a):=(swL_perm b i (2*i+2) (by omega) (by omega)).trans HP.out
      have HL2:Hid ((swL b i (2*i+2)).length=n+1):=(swL_len b i (2*i+2)).trans hl1
      have HK2:Hid (hg (swL b i (2*i+2)) n=hg a n):=(swL_keep b i (2*i+2) n (by omega) (by omega) (by omega)).trans HK.out
      rw [hl1] at q6 CJ
      clear hlt eJ
      go_wp2_with fail
      refine CJ.mono ?_
      rintro e w2 ⟨rfl,b2⟩
      have hb2:=boxed_below7 HX1.out b2
      have hr2:HRow w2 B g cp b:=HR1.out.kept (grown_below8 none b2) (by simp [Value.ownBlock])
      have p2:=hb2.cell
      have q7:=nil_swap bn w2
      have q8:=m_swap bn w2 p2
      have CS:=pswap11_any w2 B g cp b hr2 i (2*i+2) (by omega) (by omega) (by omega)
      have eJ:((2*i+2:Nat):Int)=2*(i:Int)+2:=by omega
      rw [eJ] at CS
      have B2:Fr B bn W w2:=B1.andBelow b2 (by have:=HX1.out.lt;omega) HX1.out.lt
      have HBx2:Hid (Boxed w2 bn tR (.slice (some ⟨g,0,none⟩) b.length cp)):=hb2
      have HRr2:Hid (HRow w2 B g cp b):=hr2
      rw [hl1] at p2 q8 CS
      clear hb2 hr2 eJ
      go_wp2_with fail
      refine CS.mono ?_
      rintro e w3 ⟨rfl,hr3,g3⟩
      have HS3:Hid (HpS w3 B bn (swL b i (2*i+2))):=HpS.of_swap (swL_len b i (2*i+2)) hB HBx2.out hgne hr3 g3
      have B3:Fr B bn W w3:=B2.row HRr2.out HBx2.out (by decide) g3 (by have:=HBx2.out.lt;omega)
      go_wp2_with fail
      refine ⟨⟨2*i+2,swL b i (2*i+2),by first | go_num | (simp;done) | (congr 1;omega),by omega,HL2,HS3,HP2,HI2,HK2,B3⟩,by simp [RowKit.intOf];omega⟩
     ·rw [decide_eq_false hlt] at CJ
      have HR9:Hid (HeapN b n):=downI_stop HI.out HC.out (by omega)
      rw [hl1] at q6 CJ
      clear hlt eJ
      go_wp2_with fail
      refine CJ.mono ?_
      rintro e w2 ⟨rfl,b2⟩
      have B2:Fr B bn W w2:=B1.andBelow b2 (by have:=HX1.out.lt;omega) HX1.out.lt
      have HE:Hid (∃ b,HpS w2 B bn b∧b.Perm a∧HeapN b n∧hg b n=hg a n):=⟨b,HS1.out.bel b2,HP.out,HR9.out,HK.out⟩
      go_wp2_with fail
      go_ret
      exact ⟨⟨_,rfl⟩,HE.out,B2⟩
    ·rw [decide_eq_false c3] at CA
     have HLc:Hid (LeastC b i (2*i+1) n):=leastC_one c1 (.inr (by omega))
     rw [hl1] at q2 CA p0
     clear c3 hb hr
     go_wp2_with fail
     refine CA.mono ?_
     rintro e w1 ⟨rfl,b1⟩
     have HX1:Hid (Boxed w1 bn tR (.slice (some ⟨g,0,none⟩) b.length cp)):=boxed_below7 HBx.out b1
     have HR1:Hid (HRow w1 B g cp b):=HRr.out.kept (grown_below8 none b1) (by simp [Value.ownBlock])
     have HS1:Hid (HpS w1 B bn b):=HS.out.bel b1
     have B1:Fr B bn W w1:=hbw.andBelow b1 (by have:=HBx.out.lt;omega) HBx.out.lt
     clear CA
     have HC:Hid (LeastC b i (2*i+1) n):=HLc.out
     have q5:=nil_less bn w1
     have q6:=m_less bn w1 (HX1.out.cell)
     have CJ:=pless11_any w1 B g cp b HR1.out (2*i+1) i (by omega) (by omega) (by omega)
     have eJ:((2*i+1:Nat):Int)=2*(i:Int)+1:=by omega
     rw [eJ] at CJ
     by_cases hlt:hg b (2*i+1) < hg b i
     ·rw [decide_eq_true hlt] at CJ
      have HI2:Hid (DownI (swL b i (2*i+1)) (2*i+1) n):=downI_step HI.out (by omega) HC.out hlt
      have HP2:Hid ((swL b i (2*i+1)).Perm a):=(swL_perm b i (2*i+1) (by omega) (by omega)).trans HP.out
      have HL2:Hid ((swL b i (2*i+1)).length=n+1):=(swL_len b i (2*i+1)).trans hl1
      have HK2:Hid (hg (swL b i (2*i+1)) n=hg a n):=(swL_keep b i (2*i+1) n (by omega) (by omega) (by omega)).trans HK.out
      rw [hl1] at q6 CJ
      clear hlt eJ
      go_wp2_with fail
      refine CJ.mono ?_
      rintro e w2 ⟨rfl,b2⟩
      have hb2:=boxed_below7 HX1.out b2
      have hr2:HRow w2 B g cp b:=HR1.out.kept (grown_below8 none b2) (by simp [Value.ownBlock])
      have p2:=hb2.cell
      have q7:=nil_swap bn w2
      have q8:=m_swap bn w2 p2
      have CS:=pswap11_any w2 B g cp b hr2 i (2*i+1) (by omega) (by omega) (by omega)
      have eJ:((2*i+1:Nat):Int)=2*(i:Int)+1:=by omega
      rw [eJ] at CS
      have B2:Fr B bn W w2:=B1.andBelow b2 (by have:=HX1.out.lt;omega) HX1.out.lt
      have HBx2:Hid (Boxed w2 bn tR (.slice (some ⟨g,0,none⟩) b.length cp)):=hb2
      have HRr2:Hid (HRow w2 B g cp b):=hr2
      rw [hl1] at p2 q8 CS
      clear hb2 hr2 eJ
      go_wp2_with fail
      refine CS.mono ?_
      rintro e w3 ⟨rfl,hr3,g3⟩
      have HS3:Hid (HpS w3 B bn (swL b i (2*i+1))):=HpS.of_swap (swL_len b i (2*i+1)) hB HBx2.out hgne hr3 g3
      have B3:Fr B bn W w3:=B2.row HRr2.out HBx2.out (by decide) g3 (by have:=HBx2.out.lt;omega)
      go_wp2_with fail
      refine ⟨⟨2*i+1,swL b i (2*i+1),by first | go_num | (simp;done) | (congr 1;omega),by omega,HL2,HS3,HP2,HI2,HK2,B3⟩,by simp [RowKit.intOf];omega⟩
     ·rw [decide_eq_false hlt] at CJ
      have HR9:Hid (HeapN b n):=downI_stop HI.out HC.out (by omega)
      rw [hl1] at q6 CJ
      clear hlt eJ
      go_wp2_with fail
      refine CJ.mono ?_
      rintro e w2 ⟨rfl,b2⟩
      have B2:Fr B bn W w2:=B1.andBelow b2 (by have:=HX1.out.lt;omega) HX1.out.lt
      have HE:Hid (∃ b,HpS w2 B bn b∧b.Perm a∧HeapN b n∧hg b n=hg a n):=⟨b,HS1.out.bel b2,HP.out,HR9.out,HK.out⟩
      go_wp2_with fail
      go_ret
      exact ⟨⟨_,rfl⟩,HE.out,B2⟩
   ·have c2':decide (2*(i:Int)+2 < (n:Int))=false:=by simp;omega
    have c3':¬ (2*(i:Int)+2 < (n:Int)):=by omega
    rw [hl1] at p0
    clear hb hr q2
    have HC:Hid (LeastC b i (2*i+1) n):=leastC_one c1 (.inl (by omega))
    have q5:=nil_less bn wr
    have q6:=m_less bn wr (HBx.out.cell)
    have CJ:=pless11_any wr B g cp b HRr.out (2*i+1) i (by omega) (by omega) (by omega)
    have eJ:((2*i+1:Nat):Int)=2*(i:Int)+1:=by omega
    rw [eJ] at CJ
    by_cases hlt:hg b (2*i+1) < hg b i
    ·rw [decide_eq_true hlt] at CJ
     have HI2:Hid (DownI (swL b i (2*i+1)) (2*i+1) n):=downI_step HI.out (by omega) HC.out hlt
     have HP2:Hid ((swL b i (2*i+1)).Perm a):=(swL_perm b i (2*i+1) (by omega) (by omega)).trans HP.out
     have HL2:Hid ((swL b i (2*i+1)).length=n+1):=(swL_len b i (2*i+1)).trans hl1
     have HK2:Hid (hg (swL b i (2*i+1)) n=hg a n):=(swL_keep b i (2*i+1) n (by omega) (by omega) (by omega)).trans HK.out
     rw [hl1] at q6 CJ
     clear hlt eJ
     go_wp2_with fail
     refine CJ.mono ?_
     rintro e w2 ⟨rfl,b2⟩
     have hb2:=boxed_below7 HBx.out b2
     have hr2:HRow w2 B g cp b:=HRr.out.kept (grown_below8 none b2) (by simp [Value.ownBlock])
     have p2:=hb2.cell
     have q7:=nil_swap bn w2
     have q8:=m_swap bn w2 p2
     have CS:=pswap11_any w2 B g cp b hr2 i (2*i+1) (by omega) (by omega) (by omega)
     have eJ:((2*i+1:Nat):Int)=2*(i:Int)+1:=by omega
     rw [eJ] at CS
     have B2:Fr B bn W w2:=hbw.andBelow b2 (by have:=HBx.out.lt;omega) HBx.out.lt
     have HBx2:Hid (Boxed w2 bn tR (.slice (some ⟨g,0,none⟩) b.length cp)):=hb2
     have HRr2:Hid (HRow w2 B g cp b):=hr2
     rw [hl1] at p2 q8 CS
     clear hb2 hr2 eJ
     go_wp2_with fail
     refine CS.mono ?_
     rintro e w3 ⟨rfl,hr3,g3⟩
     have HS3:Hid (HpS w3 B bn (swL b i (2*i+1))):=HpS.of_swap (swL_len b i (2*i+1)) hB HBx2.out hgne hr3 g3
     have B3:Fr B bn W w3:=B2.row HRr2.out HBx2.out (by decide) g3 (by have:=HBx2.out.lt;omega)
     go_wp2_with fail
     refine ⟨⟨2*i+1,swL b i (2*i+1),by first | go_num | (simp;done) | (congr 1;omega),by omega,HL2,HS3,HP2,HI2,HK2,B3⟩,by simp [RowKit.intOf];omega⟩
    ·rw [decide_eq_false hlt] at CJ
     have HR9:Hid (HeapN b n):=downI_stop HI.out HC.out (by omega)
     rw [hl1] at q6 CJ
     clear hlt eJ
     go_wp2_with fail
     refine CJ.mono ?_
     rintro e w2 ⟨rfl,b2⟩
     have B2:Fr B bn W w2:=hbw.andBelow b2 (by have:=HBx.out.lt;omega) HBx.out.lt
     have HE:Hid (∃ b,HpS w2 B bn b∧b.Perm a∧HeapN b n∧hg b n=hg a n):=⟨b,HS.out.bel b2,HP.out,HR9.out,HK.out⟩
     go_wp2_with fail
     go_ret
     exact ⟨⟨_,rfl⟩,HE.out,B2⟩
  ·have d1:decide (2*(i:Int)+1 ≥ (n:Int))=true:=by simp;omega
   have d3:(n:Int)≤2*(i:Int)+1:=by omega
   have HE:Hid (∃ b,HpS wr B bn b∧b.Perm a∧HeapN b n∧hg b n=hg a n):=⟨b,HS.out,HP.out,downI_leaf HI.out (by omega),HK.out⟩
   go_wp2_with fail
   go_ret
   exact ⟨⟨_,rfl⟩,HE.out,hbw⟩
end Go.Proofs.YtkkenfhlgpjmjaaGreatDoor
