/-
  The walk of CertNeeds.
-/
import Derived.Test.YtkkenfhlgpjmjaaGreatDoorCL0b
import Derived.Deep.CutRange
namespace Go.Proofs.YtkkenfhlgpjmjaaGreatDoor
set_option maxRecDepth 100000
open Go.RowKit
set_option linter.unusedVariables false
attribute [local go_sem] ba_size
theorem need_facts (h:List Ev) (v:Vd):(∀ j,j < ((needN h v).map Int.ofNat).length→0≤((needN h v).map Int.ofNat).getD j 0∧((needN h v).map Int.ofNat).getD j 0 < (h.length:Int))∧(∀ j,j+1 < ((needN h v).map Int.ofNat).length→((needN h v).map Int.ofNat).getD j 0 < ((needN h v).map Int.ofNat).getD (j+1) 0):=by
 have hs:=List.pairwise_iff_getElem.1 (need_sorted h v)
 constructor
 ·intro j hj
  rw [getD_at _ 0 j hj,List.getElem_map]
  have:=need_in h v _ (List.getElem_mem (show j < (needN h v).length by simpa using hj))
  exact ⟨Int.natCast_nonneg _,Int.ofNat_lt.2 this⟩
 ·intro j hj
  rw [getD_at _ 0 j (by omega),getD_at _ 0 (j+1) hj,List.getElem_map,List.getElem_map]
  exact Int.ofNat_lt.2 (hs j (j+1) (by simp at hj;omega) (by simpa using hj) (by omega))
set_option maxHeartbeats 2000000 in
theorem needs14_walk (C:P14C) (w:World) (hGl:G w) (vh:Value) (h:List Ev) (Th:IsEvs w vh h) (Gh:∀ x∈h,goodE x) (v:Vd) (vo vr:Value) (Ao:IsInts w vo v.2.2.1) (Ar:IsEds w vr v.2.2.2.2) :
 Calls Tryz.prog 8 #[vh,.agg (vdC v vo vr)] w fun e w'=>e=.returned (.bool true)∧Below w.heap.size w w':=by
 have HSh:=Lib.hid (fun W (hb:Below w.heap.size w W)=>shown14_any C W (hGl.below hb hGl.size))
 have HF:=Lib.hid (fun W (hb:Below w.heap.size w W)=>few14_any vh h W (Th.below hb))
 have CN:=fun (h1:h.length≤100000) (h2:v.2.2.2.2.length≤100000) W (hb:Below w.heap.size w W)=>C.needs h v vh vo vr W (Th.below hb) Gh (Ao.below hb) (Ar.below hb) h1 h2
 have HY:=need_yes h v
 obtain ⟨HX,HS⟩:=need_facts h v
 have hnl:=need_len h v
 rw [← List.length_map (f:=Int.ofNat)] at hnl
 have HY2:v.2.1=true→((needN h v).map Int.ofNat).length=0:=fun e=>by rw [HY e];rfl
 obtain ⟨NL,hNL⟩:∃ y,(needN h v).map Int.ofNat=y:=⟨_,rfl⟩
 rw [hNL] at CN HX HS hnl HY2
 clear hNL HY
 obtain ⟨lv,ac,o,⟨p,q,r⟩,g⟩:=v
 simp only at Ao Ar CN HY2 ⊢
 obtain ⟨oa,oc,rfl,o1,o2,o3,_⟩:=Ao.some_at
 obtain ⟨ra,rc,rfl,k1,k2,k3,_⟩:=Ar.some_at
 obtain ⟨ah,ch,rfl,i1,i2,i3,_⟩:=Th.some_at
 obtain ⟨no,hno⟩:∃ m,o.length=m:=⟨_,rfl⟩
 obtain ⟨ng,hng⟩:∃ m,g.length=m:=⟨_,rfl⟩
 obtain ⟨nh,hnh⟩:∃ m,h.length=m:=⟨_,rfl⟩
 simp only [hno,hng,hnh] at HF CN HX hnl o1 k1 i1 i3 ⊢
 clear hno hng hnh Ao Ar Th Gh
 by_cases d1:nh≤60
 ·rw [decide_eq_true d1] at HF
  by_cases d2:40 < ng
  ·have j2:(40:Int) < (ng:Int):=by omega
   have X0:=SBox.new w 28 #[.int .i64 lv,.bool ac,.slice oa no oc,.int .i64 p,.int .i64 q,.int .i64 r,.slice ra ng rc]
   have B0:=(Below.refl w.heap.size w).alloc (Nat.le_refl _) (.cells #[.int .i64 lv,.bool ac,.slice oa no oc,.int .i64 p,.int .i64 q,.int .i64 r,.slice ra ng rc] 28)
   have HB0:=Lib.hid B0
   generalize hW0:w.alloc (.cells #[.int .i64 lv,.bool ac,.slice oa no oc,.int .i64 p,.int .i64 q,.int .i64 r,.slice ra ng rc] 28)=W0 at X0 B0 HB0
   go_enter Tryz.func8,Tryz.ntmps8
   go_upto_region 1 with fail
   (try rw [hW0])
   clear hW0
   go_wp2_with fail
   refine (HSh.out _ B0).mono ?_
   rintro e w1 ⟨rfl,b1⟩
   have B1:=bel_trans B0 b1
   have X1:=X0.below b1
   clear X0
   go_wp2_with fail
   refine (HF.out _ B1).mono ?_
   rintro e w2 ⟨rfl,rfl⟩
   have c6:=X1.cell 6 _ rfl
   go_wp2_with fail
   go_ret
   exact ⟨rfl,B1⟩
  ·have j2:¬ (40:Int) < (ng:Int):=by omega
   have CN2:=CN (by omega) (by omega)
   clear CN
   have X0:=SBox.new w 28 #[.int .i64 lv,.bool ac,.slice oa no oc,.int .i64 p,.int .i64 q,.int .i64 r,.slice ra ng rc]
   have B0:=(Below.refl w.heap.size w).alloc (Nat.le_refl _) (.cells #[.int .i64 lv,.bool ac,.slice oa no oc,.int .i64 p,.int .i64 q,.int .i64 r,.slice ra ng rc] 28)
   have HB0:=Lib.hid B0
   generalize hW0:w.alloc (.cells #[.int .i64 lv,.bool ac,.slice oa no oc,.int .i64 p,.int .i64 q,.int .i64 r,.slice ra ng rc] 28)=W0 at X0 B0 HB0
   go_enter Tryz.func8,Tryz.ntmps8
   go_upto_region 1 with fail
   (try rw [hW0])
   clear hW0
   go_wp2_with fail
   refine (HSh.out _ B0).mono ?_
   rintro e w1 ⟨rfl,b1⟩
   have B1:=bel_trans B0 b1
   have X1:=X0.below b1
   clear X0
   go_wp2_with fail
   refine (HF.out _ B1).mono ?_
   rintro e w2 ⟨rfl,rfl⟩
   have c0:=X1.cell 0 _ rfl
   have c1:=X1.cell 1 _ rfl
   have c2:=X1.cell 2 _ rfl
   have c3:=X1.cell 3 _ rfl
   have c4:=X1.cell 4 _ rfl
   have c5:=X1.cell 5 _ rfl
   have c6:=X1.cell 6 _ rfl
   go_wp2_with fail
   refine (CN2 _ B1).mono ?_
   rintro e w3 ⟨vn,rfl,b3,on⟩
   have In:IsInts w3 vn NL:=IsRec.own intV_len (by omega) on (by omega)
   obtain ⟨an,cn,rfl,n1,n2,n3,HC⟩:=IsInts.reads In
   have B3:=bel_trans B1 b3
   have X3:=X1.below b3
   obtain ⟨n,hn⟩:∃ n,NL.length=n:=⟨_,rfl⟩
   have HN:=Lib.hid hn
   have HXX:=Lib.hid HX
   have HSS:=Lib.hid HS
   have HYY:=Lib.hid HY2
   rw [hn] at n1 n3 hnl ⊢
   clear c0 c1 c2 c3 c4 c5 c6 X1 on In hn HX HS HY2 b1 b3
   go_wp2_with fail
   go_loopw [8] (fun i wr=>∃ k:Nat,k≤n∧i=.int .i64 (k:Int)∧Below w3.heap.size w3 wr) (fun i _=>n - (RowKit.intOf i).toNat)
   case atStart=>exact ⟨0,Nat.zero_le _,rfl,Below.refl _ _⟩
   case round =>
    obtain ⟨k,hk,rfl,hB⟩:=hrel
    by_cases hlt:k < n
    ·have j0:(k:Int) < (n:Int):=by omega
     have hkN:k < NL.length:=by have:=HN.out;omega
     obtain ⟨bb,off,rfl,HQ⟩:=HC.out (by omega)
     have ck:=HQ.out k hkN wr hB
     have fx:=HXX.out k hkN
     obtain ⟨x,hx⟩:∃ x,NL.getD k 0=x:=⟨_,rfl⟩
     have HGx:=Lib.hid hx
     rw [hx] at ck fx
     clear hx
     have f1:¬ x < 0:=by omega
     have f2:¬ (nh:Int)≤x:=by omega
     by_cases dk:k=0
     ·have jp:¬ (0:Int) < (k:Int):=by omega
      have jp2:¬ 0 < k:=by omega
      have f4:decide (x < 0)=false:=decide_eq_false f1
      have f5:decide (x ≥ (nh:Int))=false:=decide_eq_false f2
      clear fx dk
      go_wp2_with fail
      go_quiet (fail)
      go_wp2_with fail
      exact ⟨⟨k+1,by omega,by first | go_num | simp,below_drewN hB _⟩,by simp [RowKit.intOf];omega⟩
     ·obtain ⟨m,hm⟩:∃ m,k=m+1:=⟨k - 1,by omega⟩
      have cm:=HQ.out m (by omega) wr hB
      have fs:=HSS.out m (by omega)
      rw [← hm,HGx.out] at fs
      obtain ⟨y,hy⟩:∃ y,NL.getD m 0=y:=⟨_,rfl⟩
      rw [hy] at cm fs
      have f3:¬ x≤y:=by omega
      have jw:IntKind.i64.wrap ((k:Int) - 1)=(m:Int):=by rw [IntKind.wrap_i64];omega
      have jm:(m:Int) < (n:Int):=by omega
      have jp:(0:Int) < (k:Int):=by omega
      have jp2:0 < k:=by omega
      have f4:decide (x < 0)=false:=decide_eq_false f1
      have f5:decide (x ≥ (nh:Int))=false:=decide_eq_false f2
      clear fx fs hy hm dk
      go_wp2_with fail
      go_quiet (fail)
      go_wp2_with fail
      exact ⟨⟨k+1,by omega,by first | go_num | simp,below_drewN hB _⟩,by simp [RowKit.intOf];omega⟩
    ·obtain rfl:k=n:=by omega
     have jq:¬ (k:Int) < (k:Int):=by omega
     have X4:=X3.below hB
     have c1:=X4.cell 1 _ rfl
     have B4:=bel_trans B3 hB
     cases ac with
     | true =>
       have k0:k=0:=by have:=HYY.out rfl;have:=HN.out;omega
       subst k0
       go_wp2_with fail
       go_ret
       exact ⟨rfl,B4⟩
     | false =>
       go_wp2_with fail
       go_ret
       exact ⟨rfl,B4⟩
 ·rw [decide_eq_false d1] at HF
  have X0:=SBox.new w 28 #[.int .i64 lv,.bool ac,.slice oa no oc,.int .i64 p,.int .i64 q,.int .i64 r,.slice ra ng rc]
  have B0:=(Below.refl w.heap.size w).alloc (Nat.le_refl _) (.cells #[.int .i64 lv,.bool ac,.slice oa no oc,.int .i64 p,.int .i64 q,.int .i64 r,.slice ra ng rc] 28)
  have HB0:=Lib.hid B0
  generalize hW0:w.alloc (.cells #[.int .i64 lv,.bool ac,.slice oa no oc,.int .i64 p,.int .i64 q,.int .i64 r,.slice ra ng rc] 28)=W0 at X0 B0 HB0
  go_enter Tryz.func8,Tryz.ntmps8
  go_upto_region 1 with fail
  (try rw [hW0])
  clear hW0
  go_wp2_with fail
  refine (HSh.out _ B0).mono ?_
  rintro e w1 ⟨rfl,b1⟩
  have B1:=bel_trans B0 b1
  have X1:=X0.below b1
  clear X0
  go_wp2_with fail
  refine (HF.out _ B1).mono ?_
  rintro e w2 ⟨rfl,rfl⟩
  go_wp2_with fail
  go_ret
  exact ⟨rfl,B1⟩
end Go.Proofs.YtkkenfhlgpjmjaaGreatDoor
