/-
  How many events a slice among the arguments has, by its bulk; whether it is nil. What cartoucheref12.Flat answers. What cartoucheref10.Same answers.
-/
import Derived.Test.YtiihegldhnlleaaGreatCL0b
import Derived.Test.YtiihegldhnlleaaGreatRows
namespace Go.Proofs.YtiihegldhnlleaaGreat
set_option maxRecDepth 100000
open Go.ChangeShapes Go.WideShapes Go.ChangeAt Go.RowKit
set_option linter.unusedVariables false
theorem bulk_pos {H:Type} (d:DataW H):1≤Rows.uptoBulk d:=by
 cases d with
 | lit l=>cases l<;>simp [Rows.uptoBulk]
 | _=>simp [Rows.uptoBulk]
theorem bulk_all {H:Type}:∀ (l:List (DataW H)),l.length≤Rows.uptoBulkAll l
 | []=>by simp [Rows.uptoBulkAll]
 | d::r=>by
   have h1:=bulk_pos d
   have h2:=bulk_all r
   rw [Rows.uptoBulkAll,List.length_cons]
   omega
end Go.Proofs.YtiihegldhnlleaaGreat
namespace Go.Proofs.YtiihegldhnlleaaGreat
set_option maxRecDepth 100000
open Go.RowKit
set_option linter.unusedVariables false
attribute [local go_sem] ba_size
set_option maxHeartbeats 4000000 in
theorem rflat_any (vl:Value) (l:List Stp) (w:World) (hT:IsSts w vl l) (hF:(flatL l).length≤1000000000000) :
 Calls Tryz.prog 18 #[vl] w fun e w'=>EdRow 54 w (flatL l) e w':=by
 obtain ⟨i0,hi,hz0,hz1,hz2⟩:=info_parts ed_info
 obtain ⟨a,cap,rfl,h1,h2,h3,HC⟩:=hT.reads
 obtain ⟨n,hn⟩:∃ n,l.length=n:=⟨_,rfl⟩
 have HN:Hid (l.length=n):=hn
 have HF:Hid ((flatL l).length≤1000000000000):=hF
 rw [hn] at h1 h3 ⊢
 clear hn hT hF
 go_enter Tryz.func18,Tryz.ntmps18
 go_wp2_with fail
 go_loopw [3,4] (fun r iv wr=>∃ (k c:Nat),k≤n∧iv=.int .i64 k∧Hid ((flatL (l.take k)).length=c)∧Below w.heap.size w wr∧wr.ownsRow w.heap.size 54 5 r c (recV edV (flatL (l.take k)))) (fun _ iv _=>n - (intOf iv).toNat)
 case atStart=>exact ⟨0,0,Nat.zero_le _,rfl,rfl,Below.refl _ _,World.ownsRow_nil _ _ _ _⟩
 case round =>
  obtain ⟨wA,rfl⟩:∃ wA,wA=wr:=⟨_,rfl⟩
  obtain ⟨k,c,hk,rfl,HLc,hbw,hrow⟩:=hrel
  by_cases hlt:k < n
  ·have hk1:Hid (k < l.length):=by show k < _;rw [HN.out];exact hlt
   have j0:(k:Int) < (n:Int):=by omega
   have jwk:IntKind.i64.wrap ((k:Int)+1)=(k:Int)+1:=by rw [IntKind.wrap_i64];omega
   obtain ⟨bb,off,rfl,u,hu,HQ⟩:=HC.out k hk1.out
   have HQQ:Hid (∀ V,Below w.heap.size w V→V.cell? ⟨bb,off+k*3+2,none⟩=some u):=fun V hV=>(HQ V hV).2.2
   have HNx:Hid (flatL (l.take (k+1))=flatL (l.take k)++(l[k]'hk1.out).2.2):=flat_next l k hk1.out
   obtain ⟨E,hE⟩:∃ E,(l[k]'hk1.out).2.2=E:=⟨_,rfl⟩
   rw [hE] at hu HNx
   clear hE HQ
   obtain ⟨ae,ce,rfl,e1,e2,e3,HE⟩:=IsEds.reads hu
   obtain ⟨m,hm⟩:∃ m,E.length=m:=⟨_,rfl⟩
   have HM:Hid (E.length=m):=hm
   rw [hm] at e1 e3 HQQ
   have HB:Hid (c+m≤1000000000000):=by
    have q:=flat_take l (k+1)
    rw [HNx.out,List.length_append,HLc.out,hm] at q
    have:=HF.out
    show _≤_
    omega
   clear hm hu
   have c0:=HQQ.out _ hbw
   go_wp2_with fail
   go_loopw [3,5] (fun r iv wr=>∃ (q:Nat),q≤m∧iv=.int .i64 q∧Below w.heap.size w wr∧wr.ownsRow w.heap.size 54 5 r (c+q) (recV edV (flatL (l.take k)++E.take q))) (fun _ iv _=>m - (intOf iv).toNat)
   case atStart=>exact ⟨0,Nat.zero_le _,rfl,hbw,by rw [List.take_zero,List.append_nil];exact hrow⟩
   case round =>
    obtain ⟨q,hq,rfl,hbq,hrq⟩:=hrel
    have c1:=HQQ.out _ hbq
    by_cases hlq:q < m
    ·have j1:(q:Int) < (m:Int):=by omega
     have jwq:IntKind.i64.wrap ((q:Int)+1)=(q:Int)+1:=by rw [IntKind.wrap_i64];omega
     have hq1:q < E.length:=by have:=HM.out;omega
     obtain ⟨be,oe,rfl,HEE⟩:=HE.out (by omega)
     obtain ⟨x0,x1,x2,x3,x4⟩:=HEE.out q hq1 _ hbq
     have HY:Hid (E.take (q+1)=E.take q++[E[q]]):=List.take_succ_eq_append_getElem hq1
     obtain ⟨⟨e0,e1',e2',e3',e4⟩,hx⟩:∃ x,E[q]=x:=⟨_,rfl⟩
     rw [hx] at x0 x1 x2 x3 x4 HY
     simp only at x0 x1 x2 x3 x4
     clear hx
     have hbb:=HB.out
     have hal:=hrq.alloc (.cells #[.int .i64 e0,.int .i64 e1',.int .i64 e2',.int .i64 e3',.int .i64 e4] 54)
     go_wp2_with (at_builtin;refine wpList_append_own_at _ rfl _ _ 26 rfl w.heap.size 54 i0 (.agg #[.int .i64 0,.int .i64 0,.int .i64 0,.int .i64 0,.int .i64 0]) 5 40 Tryz.underlying26 hi hz0 hz1 hz2 rfl (by decide) _ _ _ rfl hal ⟨wr.heap.size,0,none⟩ 1 1 [.int .i64 e0,.int .i64 e1',.int .i64 e2',.int .i64 e3',.int .i64 e4] rfl rfl ?a1 ?a2 ?a3 ?a4 ?a5 ?_)
     case a1=>intro j u hj;match j,hj with
      | 0,hj=>simp at hj;subst hj;first | (simp [Addr.add];done) | exact cell_new7 (by simp) rfl
      | 1,hj=>simp at hj;subst hj;first | (simp [Addr.add];done) | exact cell_new7 (by simp) rfl
      | 2,hj=>simp at hj;subst hj;first | (simp [Addr.add];done) | exact cell_new7 (by simp) rfl
      | 3,hj=>simp at hj;subst hj;first | (simp [Addr.add];done) | exact cell_new7 (by simp) rfl
      | 4,hj=>simp at hj;subst hj;first | (simp [Addr.add];done) | exact cell_new7 (by simp) rfl
     case a2=>intro u hu;simp at hu;rcases hu with rfl | rfl | rfl | rfl | rfl<;>rfl
     case a3=>unfold maxLen;omega
     case a4=>omega
     case a5=>have:=hbq.size;simp;omega
     intro r3 w3 hown3 hg3 _ hat3
     have B3:Below w.heap.size w w3:=(hbq.alloc hbq.size _).grown hg3 (by have:=hbq.size;simp;omega) (fun j hj=>(hrq.lt j hj).1)
     go_wp2_with fail
     refine ⟨⟨q+1,by omega,by first | go_num | simp,B3,by rw [HY.out,← List.append_assoc,recE12_snoc];exact hown3⟩,by simp [intOf];omega⟩
    ·obtain rfl:q=m:=by omega
     have j1:¬ (q:Int) < (q:Int):=by omega
     have HT:Hid (E.take q=E):=by show _=_;rw [← HM.out,List.take_length]
     go_wp2_with fail
     refine ⟨⟨k+1,c+q,by omega,by first | go_num | simp,by show _=_;rw [HNx.out,List.length_append,HLc.out,HM.out],hbq,by rw [HNx.out,← HT.out];exact hrq⟩,by simp [intOf];omega⟩
  ·obtain rfl:k=n:=by omega
   have jq:¬ (k:Int) < (k:Int):=by omega
   have HT:Hid (l.take k=l):=by show _=_;rw [← HN.out,List.take_length]
   go_wp2_with fail
   go_ret
   refine ⟨_,rfl,hbw,?_⟩
   rw [HT.out] at hrow HLc
   rw [HLc.out]
   exact hrow
set_option maxHeartbeats 2000000 in
theorem rsamee_any (v1 v2:Value) (L M:List Ed) (w:World) (h1:IsEds w v1 L) (h2:IsEds w v2 M) :
 Calls Tryz.prog 16 #[v1,v2] w fun e w'=>e=.returned (.bool (decide (L=M)))∧Below w.heap.size w w':=by
 obtain ⟨a1,c1,rfl,hq1,hq2,hb1,HC1⟩:=h1.some_at
 obtain ⟨a2,c2,rfl,hq3,hq4,hb2,HC2⟩:=h2.some_at
 clear h1 h2
 by_cases hn:L.length=M.length
 ·obtain ⟨n1,hn1⟩:∃ n1,L.length=n1:=⟨_,rfl⟩
  have hn2:M.length=n1:=by omega
  have HL1:Hid (L.length=n1):=hn1
  have HL2:Hid (M.length=n1):=hn2
  rw [hn1] at hb1 hq1 ⊢
  rw [hn2] at hq3 ⊢
  clear hb2 hn hn1 hn2
  have hbne:((n1:Int) != (n1:Int))=false:=by simp
  go_enter Tryz.func16,Tryz.ntmps16
  go_wp2
  go_loopw [5] (fun i wr=>∃ k:Nat,k≤n1∧i=.int .i64 k∧Hid (L.take k=M.take k)∧Below w.heap.size w wr) (fun i _=>n1 - (intOf i).toNat)
  case atStart=>exact ⟨0,Nat.zero_le _,rfl,rfl,Below.refl _ _⟩
  case round =>
   obtain ⟨k,hk,rfl,HT,hbw⟩:=hrel
   by_cases hlt:k < n1
   ·have hk1:k < L.length:=by have:=HL1.out;omega
    have hk2:k < M.length:=by have:=HL2.out;omega
    obtain ⟨x1,o1,rfl,hx1,p1⟩:=HC1.out k hk1
    obtain ⟨x2,o2,rfl,hx2,p2⟩:=HC2.out k hk2
    have qx10:wr.cell? ⟨x1,o1+k*5,none⟩=some (.int .i64 L[k].1):=(hbw.cell (p:=⟨x1,o1+k*5,none⟩) hx1).trans (p1 0 _ rfl)
    have qx20:wr.cell? ⟨x2,o2+k*5,none⟩=some (.int .i64 M[k].1):=(hbw.cell (p:=⟨x2,o2+k*5,none⟩) hx2).trans (p2 0 _ rfl)
    have qx11:wr.cell? ⟨x1,o1+k*5+1,none⟩=some (.int .i64 L[k].2.1):=(hbw.cell (p:=⟨x1,o1+k*5+1,none⟩) hx1).trans (p1 1 _ rfl)
    have qx21:wr.cell? ⟨x2,o2+k*5+1,none⟩=some (.int .i64 M[k].2.1):=(hbw.cell (p:=⟨x2,o2+k*5+1,none⟩) hx2).trans (p2 1 _ rfl)
    have qx12:wr.cell? ⟨x1,o1+k*5+2,none⟩=some (.int .i64 L[k].2.2.1):=(hbw.cell (p:=⟨x1,o1+k*5+2,none⟩) hx1).trans (p1 2 _ rfl)
    have qx22:wr.cell? ⟨x2,o2+k*5+2,none⟩=some (.int .i64 M[k].2.2.1):=(hbw.cell (p:=⟨x2,o2+k*5+2,none⟩) hx2).trans (p2 2 _ rfl)
    have qx13:wr.cell? ⟨x1,o1+k*5+3,none⟩=some (.int .i64 L[k].2.2.2.1):=(hbw.cell (p:=⟨x1,o1+k*5+3,none⟩) hx1).trans (p1 3 _ rfl)
    have qx23:wr.cell? ⟨x2,o2+k*5+3,none⟩=some (.int .i64 M[k].2.2.2.1):=(hbw.cell (p:=⟨x2,o2+k*5+3,none⟩) hx2).trans (p2 3 _ rfl)
    have qx14:wr.cell? ⟨x1,o1+k*5+4,none⟩=some (.int .i64 L[k].2.2.2.2):=(hbw.cell (p:=⟨x1,o1+k*5+4,none⟩) hx1).trans (p1 4 _ rfl)
    have qx24:wr.cell? ⟨x2,o2+k*5+4,none⟩=some (.int .i64 M[k].2.2.2.2):=(hbw.cell (p:=⟨x2,o2+k*5+4,none⟩) hx2).trans (p2 4 _ rfl)
    clear p1 p2
    obtain ⟨xx,hxx⟩:∃ x,L[k]=x:=⟨_,rfl⟩
    obtain ⟨yy,hyy⟩:∃ x,M[k]=x:=⟨_,rfl⟩
    have HX:Hid (L[k]=xx):=hxx
    have HY:Hid (M[k]=yy):=hyy
    rw [hxx] at qx10 qx11 qx12 qx13 qx14
    rw [hyy] at qx20 qx21 qx22 qx23 qx24
    clear hxx hyy
    by_cases he:xx=yy
    ·subst he
     have e0:(xx.1==xx.1)=true:=beq_self_eq_true _
     have e1:(xx.2.1==xx.2.1)=true:=beq_self_eq_true _
     have e2:(xx.2.2.1==xx.2.2.1)=true:=beq_self_eq_true _
     have e3:(xx.2.2.2.1==xx.2.2.2.1)=true:=beq_self_eq_true _
     have e4:(xx.2.2.2.2==xx.2.2.2.2)=true:=beq_self_eq_true _
     go_wp2
     go_quiet (fail)
     go_wp2
     go_roundw
     case rel=>exact ⟨k+1,by omega,by go_num,(take_next_eq hk1 hk2 HT.out (by rw [HX.out,HY.out]):_=_),below_drewN hbw _⟩
     case measure=>simp [intOf];omega
    ·have HF:Hid (decide (L=M)=false):=decide_eq_false (ne_by_at hk1 hk2 (by rw [HX.out,HY.out];exact he))
     by_cases f0:xx.1=yy.1
     ·have e0:(xx.1==yy.1)=true:=by rw [f0];exact beq_self_eq_true _
      by_cases f1:xx.2.1=yy.2.1
      ·have e1:(xx.2.1==yy.2.1)=true:=by rw [f1];exact beq_self_eq_true _
       by_cases f2:xx.2.2.1=yy.2.2.1
       ·have e2:(xx.2.2.1==yy.2.2.1)=true:=by rw [f2];exact beq_self_eq_true _
        by_cases f3:xx.2.2.2.1=yy.2.2.2.1
        ·have e3:(xx.2.2.2.1==yy.2.2.2.1)=true:=by rw [f3];exact beq_self_eq_true _
         have f4:¬ xx.2.2.2.2=yy.2.2.2.2:=fun h=>he (Prod.ext f0 (Prod.ext f1 (Prod.ext f2 (Prod.ext f3 (h)))))
         have e4:(xx.2.2.2.2==yy.2.2.2.2)=false:=beq_eq_false_iff_ne.2 f4
         clear he f0 f1 f2 f3 f4
         go_wp2
         go_quiet (fail)
         go_wp2
         go_ret
         exact ⟨by rw [HF.out];rfl,below_drewN hbw _⟩
        ·have e3:(xx.2.2.2.1==yy.2.2.2.1)=false:=beq_eq_false_iff_ne.2 f3
         clear he f0 f1 f2 f3
         go_wp2
         go_quiet (fail)
         go_wp2
         go_ret
         exact ⟨by rw [HF.out];rfl,below_drewN hbw _⟩
       ·have e2:(xx.2.2.1==yy.2.2.1)=false:=beq_eq_false_iff_ne.2 f2
        clear he f0 f1 f2
        go_wp2
        go_quiet (fail)
        go_wp2
        go_ret
        exact ⟨by rw [HF.out];rfl,below_drewN hbw _⟩
      ·have e1:(xx.2.1==yy.2.1)=false:=beq_eq_false_iff_ne.2 f1
       clear he f0 f1
       go_wp2
       go_quiet (fail)
       go_wp2
       go_ret
       exact ⟨by rw [HF.out];rfl,below_drewN hbw _⟩
     ·have e0:(xx.1==yy.1)=false:=beq_eq_false_iff_ne.2 f0
      clear he f0
      go_wp2
      go_quiet (fail)
      go_wp2
      go_ret
      exact ⟨by rw [HF.out];rfl,below_drewN hbw _⟩
   ·have HF:Hid (decide (L=M)=true):=by
     show decide (L=M)=true
     apply decide_eq_true
     have h:=HT.out
     rwa [List.take_of_length_le (by have:=HL1.out;omega),List.take_of_length_le (by have:=HL2.out;omega)] at h
    go_wp2
    go_ret
    exact ⟨by rw [HF.out];rfl,hbw⟩
 ·have hbne:((L.length:Int) != (M.length:Int))=true:=by simp;omega
  have HF:Hid (decide (L=M)=false):=decide_eq_false (fun h=>hn (by rw [h]))
  clear hn
  go_enter Tryz.func16,Tryz.ntmps16
  go_wp2
  go_ret
  exact ⟨by rw [HF.out];rfl,Below.refl _ _⟩
end Go.Proofs.YtiihegldhnlleaaGreat
