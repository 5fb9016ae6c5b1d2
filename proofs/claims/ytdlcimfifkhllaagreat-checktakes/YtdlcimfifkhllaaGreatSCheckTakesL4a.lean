/-
  What is judged of few events has few numbers, each one that may be: in lists. The walk of CheckTakes.
-/
import Derived.Test.YtdlcimfifkhllaaGreatSCheckTakesR12Judge
namespace Go.Proofs.YtdlcimfifkhllaaGreat
set_option maxRecDepth 100000
open Go.RowKit
set_option linter.unusedVariables false
attribute [local go_sem] ba_size
theorem judge_ok13 (h:List Ev) (level:Int) (Gh:∀ x∈h,goodE x):okV (judgeL h level).1∧(judgeL h level).1.2.2.1.length≤1000000∧(judgeL h level).1.2.2.2.2.length≤1000000:=by
 by_cases hl:level=1∨level=2
 ·by_cases hf:(formedL h).2=0
  ·have hw:=(formed_ok h).1 hf
   have hle:=hw.1
   obtain ⟨l1,l2,l3,l4⟩:=wf_bounds hw level
   cases hb:badsL h with
   | cons b r =>
     rw [judge_bad h level hl hf b r hb]
     refine ⟨⟨by unfold okN;simp only;omega,?_,fun x hx=>(by cases hx),fun x hx=>(by cases hx),by simp⟩,by simp,by simp⟩
     have hm:b∈badsL h:=by rw [hb];exact List.mem_cons_self ..
     unfold badsL at hm
     obtain ⟨i,hi,hi2⟩:=List.mem_filterMap.1 hm
     have hi:=List.mem_range.1 hi
     by_cases h0:(atL h i).1=0
     ·rw [if_pos h0] at hi2;cases hi2
     ·rw [if_neg h0] at hi2
      cases hi2
      rcases at_shows hw i with e | ⟨j,s1,s2,_,s4,_,_,s7⟩
      ·rw [e] at h0;exact absurd rfl h0
      ·simp only
       unfold okN
       rw [s1,s2]
       refine ⟨?_,by omega,by omega⟩
       rcases s7 with ⟨k,_⟩ | ⟨k,_⟩ | ⟨k,_⟩ | ⟨k,_⟩<;>rw [k]<;>decide
   | nil =>
     cases ho:orderL (nodeL h) (stepsL level (edgesL h)) with
     | some o =>
       rw [judge_order h level hl hf hb o ho]
       have hfew:=orderF_few _ (nodeL h).length (nodeL h) o ho
       obtain ⟨_,h2,_⟩:=orderF_some _ (nodeL h).length (nodeL h) o (Nat.le_refl _) ho
       refine ⟨⟨by unfold okN;simp only;omega,by unfold okN;simp,fun x hx=>?_,fun x hx=>(by cases hx),by simp only;omega⟩,by simp only;omega,by simp⟩
       have:=(h2 x).1 hx
       unfold nodeL at this
       have:=(nd_mem _ _ _).1 this
       unfold okN
       omega
     | none =>
       rw [judge_ring h level hl hf hb ho]
       refine ⟨⟨by unfold okN;simp only;omega,by unfold okN;simp,fun x hx=>(by cases hx),fun x hx=>?_,by simp⟩,by simp,by simp only;omega⟩
       simp only at hx
       cases hq:ringL (stepsL level (edgesL h)) with
       | none=>rw [hq] at hx;cases hx
       | some r =>
         rw [hq] at hx
         exact edge_good h hle Gh x ((flat_ring level (edgesL h) r hq).2 x hx)
  ·rw [judge_form h level hl hf];unfold okV okN zV;simp
 ·rw [judge_arg h level (by omega) (by omega)];unfold okV okN zV;simp
theorem own_shape13c {W:World} {B e k n:Nat} {v:Value} {xs:List Value} (h:W.ownsRow B e k v n xs):∃ ad c,v=.slice ad n c:=by
 rcases h.2 with ⟨rfl,rfl⟩ | ⟨g,cap,cur,rfl,_⟩
 ·exact ⟨none,0,rfl⟩
 ·exact ⟨_,_,rfl⟩
set_option maxHeartbeats 4000000 in
theorem takes13_walk (C:P13C) (w:World) (vh:Value) (h:List Ev) (Th:IsEvs w vh h) (Gh:∀ x∈h,goodE x) (level:Int) (gl:okN level) :
 Calls Tryz.prog 5 #[vh,.int .i64 level] w fun e w'=>e=.returned (.bool true)∧Below w.heap.size w w':=by
 have HSh:Hid (∀ W,Below w.heap.size w W→Calls Tryz.prog 10 #[] W fun e w'=>e=.returned (.bool true)∧Below W.heap.size W w'):=fun W h=>shown13_any C W
 have HF:Hid (∀ W,Below w.heap.size w W→Calls Tryz.prog 11 #[vh] W fun e w'=>e=.returned (.bool (decide (fewK h)))∧Below W.heap.size W w'):=fun W hb=>few13_any vh h W (Th.below hb)
 have RJ:Hid (∀ W,Below w.heap.size w W→Calls Tryz.prog 20 #[vh,.int .i64 level] W fun e w'=>VRes W (judgeL h level) e w'):=fun W hb=>rjudge_any h vh W level (Th.below hb)
 have hok:=judge_ok13 h level Gh
 have htk:=check_takes h level
 by_cases h1:fewK h
 ·rw [decide_eq_true h1] at HF
  obtain ⟨⟨⟨lv,ac,o,⟨p,q,r⟩,g⟩,x⟩,hx⟩:∃ y,judgeL h level=y:=⟨_,rfl⟩
  rw [hx] at RJ hok htk
  simp only at hok htk
  obtain ⟨gv,lo,lg⟩:=hok
  obtain ⟨ah,ch,rfl,ih,jh,kh,HCh⟩:=Th.reads
  obtain ⟨n,hn⟩:∃ n,h.length=n:=⟨_,rfl⟩
  have HC:Hid (∀ vo vr W,Below w.heap.size w W→IsInts W vo o→IsEds W vr g→Calls Tryz.prog 12 #[.slice ah h.length ch,.agg (vdC (lv,ac,o,(p,q,r),g) vo vr)] W fun e w'=>e=.returned (.int .i64 (checkV h (lv,ac,o,(p,q,r),g)))∧Below W.heap.size W w'):=fun vo vr W hb To Tr=>C.check h _ vo vr (lv,ac,o,(p,q,r),g) W (Th.below hb) Gh h1.few gv To Tr (by simpa using lg)
  by_cases hx0:x=0
  ·subst hx0
   rw [htk rfl] at HC
   rw [hn] at HF RJ HC ⊢
   clear hx hn htk gv HCh
   go_enter Tryz.func5,Tryz.ntmps5
   go_wp2_with fail
   refine (HSh.out _ (Below.refl w.heap.size w)).mono ?_
   rintro e w1 ⟨rfl,b1⟩
   have B1:=bel_trans (Below.refl w.heap.size w) b1
   go_wp2_with fail
   refine (HF.out _ B1).mono ?_
   rintro e w2 ⟨rfl,b2⟩
   have B2:=bel_trans B1 b2
   go_wp2_with fail
   refine (RJ.out _ B2).mono ?_
   rintro e w3 ⟨vo,vr,rfl,b3,O3,R3⟩
   obtain ⟨oa,oc,rfl⟩:=own_shape13c O3
   obtain ⟨ra,rc,rfl⟩:=own_shape13c R3
   have B3:=bel_trans B2 b3
   have X3:=SBox.new w3 28 #[.int .i64 lv,.bool ac,.slice oa o.length oc,.int .i64 p,.int .i64 q,.int .i64 r,.slice ra g.length rc]
   have D3:=B3.alloc B3.size (.cells #[.int .i64 lv,.bool ac,.slice oa o.length oc,.int .i64 p,.int .i64 q,.int .i64 r,.slice ra g.length rc] 28)
   have T1:IsInts (w3.alloc (.cells #[.int .i64 lv,.bool ac,.slice oa o.length oc,.int .i64 p,.int .i64 q,.int .i64 r,.slice ra g.length rc] 28)) (.slice oa o.length oc) o:=(IsRec.own (L:=o) intV_len (by omega) O3 (by simp only;omega)).below ((Below.refl _ _).alloc (Nat.le_refl _) _)
   have T2:IsEds (w3.alloc (.cells #[.int .i64 lv,.bool ac,.slice oa o.length oc,.int .i64 p,.int .i64 q,.int .i64 r,.slice ra g.length rc] 28)) (.slice ra g.length rc) g:=(IsRec.own (L:=g) edV_len (by omega) R3 (by simp only;omega)).below ((Below.refl _ _).alloc (Nat.le_refl _) _)
   have K:=HC.out _ _ _ D3 T1 T2
   have f0:=X3.cell 0 _ rfl
   have f1:=X3.cell 1 _ rfl
   have f2:=X3.cell 2 _ rfl
   have f3:=X3.cell 3 _ rfl
   have f4:=X3.cell 4 _ rfl
   have f5:=X3.cell 5 _ rfl
   have f6:=X3.cell 6 _ rfl
   clear T1 T2 O3 R3 X3
   go_wp2_with fail
   refine K.mono ?_
   rintro e w4 ⟨rfl,b4⟩
   go_wp2_with fail
   go_ret
   exact ⟨rfl,bel_trans D3 b4⟩
  ·have j0:(x != 0)=true:=bne_iff_ne.2 hx0
   rw [hn] at HF RJ ⊢
   clear hx hn htk gv HCh HC hx0
   go_enter Tryz.func5,Tryz.ntmps5
   go_wp2_with fail
   refine (HSh.out _ (Below.refl w.heap.size w)).mono ?_
   rintro e w1 ⟨rfl,b1⟩
   have B1:=bel_trans (Below.refl w.heap.size w) b1
   go_wp2_with fail
   refine (HF.out _ B1).mono ?_
   rintro e w2 ⟨rfl,b2⟩
   have B2:=bel_trans B1 b2
   go_wp2_with fail
   refine (RJ.out _ B2).mono ?_
   rintro e w3 ⟨vo,vr,rfl,b3,O3,R3⟩
   obtain ⟨oa,oc,rfl⟩:=own_shape13c O3
   obtain ⟨ra,rc,rfl⟩:=own_shape13c R3
   have B3:=bel_trans B2 b3
   have X3:=SBox.new w3 28 #[.int .i64 lv,.bool ac,.slice oa o.length oc,.int .i64 p,.int .i64 q,.int .i64 r,.slice ra g.length rc]
   have D3:=B3.alloc B3.size (.cells #[.int .i64 lv,.bool ac,.slice oa o.length oc,.int .i64 p,.int .i64 q,.int .i64 r,.slice ra g.length rc] 28)
   clear O3 R3
   go_wp2_with fail
   go_ret
   exact ⟨rfl,D3⟩
 ·rw [decide_eq_false h1] at HF
  obtain ⟨⟨⟨lv,ac,o,⟨p,q,r⟩,g⟩,x⟩,hx⟩:∃ y,judgeL h level=y:=⟨_,rfl⟩
  rw [hx] at RJ hok htk
  simp only at hok htk
  obtain ⟨gv,lo,lg⟩:=hok
  obtain ⟨ah,ch,rfl,ih,jh,kh,HCh⟩:=Th.reads
  obtain ⟨n,hn⟩:∃ n,h.length=n:=⟨_,rfl⟩
  rw [hn] at HF RJ ⊢
  clear hx hn htk gv HCh
  go_enter Tryz.func5,Tryz.ntmps5
  go_wp2_with fail
  refine (HSh.out _ (Below.refl w.heap.size w)).mono ?_
  rintro e w1 ⟨rfl,b1⟩
  have B1:=bel_trans (Below.refl w.heap.size w) b1
  go_wp2_with fail
  refine (HF.out _ B1).mono ?_
  rintro e w2 ⟨rfl,b2⟩
  have B2:=bel_trans B1 b2
  go_wp2_with fail
  refine (RJ.out _ B2).mono ?_
  rintro e w3 ⟨vo,vr,rfl,b3,O3,R3⟩
  obtain ⟨oa,oc,rfl⟩:=own_shape13c O3
  obtain ⟨ra,rc,rfl⟩:=own_shape13c R3
  have B3:=bel_trans B2 b3
  have X3:=SBox.new w3 28 #[.int .i64 lv,.bool ac,.slice oa o.length oc,.int .i64 p,.int .i64 q,.int .i64 r,.slice ra g.length rc]
  have D3:=B3.alloc B3.size (.cells #[.int .i64 lv,.bool ac,.slice oa o.length oc,.int .i64 p,.int .i64 q,.int .i64 r,.slice ra g.length rc] 28)
  clear O3 R3
  go_wp2_with fail
  go_ret
  exact ⟨rfl,D3⟩
end Go.Proofs.YtdlcimfifkhllaaGreat
