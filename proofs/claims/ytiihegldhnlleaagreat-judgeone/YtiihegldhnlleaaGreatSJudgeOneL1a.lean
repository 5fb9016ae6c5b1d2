/-
  The walk of JudgeOne.
-/
import Derived.Test.YtiihegldhnlleaaGreatCShown12
import Derived.Deep.RegionHeld3
namespace Go.Proofs.YtiihegldhnlleaaGreat
set_option maxRecDepth 100000
open Go.RowKit
set_option linter.unusedVariables false
attribute [local go_sem] ba_size
set_option maxHeartbeats 4000000 in
theorem one12_walk (C:P12C) (w:World) (vh:Value) (h:List Ev) (Th:IsEvs w vh h) (Gh:∀ x∈h,goodE x) (level:Int) (gl:-9223372036854775808≤level∧level≤9223372036854775807) :
 Calls Tryz.prog 7 #[vh,.int .i64 level] w fun e w'=>e=.returned (.bool true)∧Below w.heap.size w w':=by
 have HSh:Hid (∀ W,Below w.heap.size w W→Calls Tryz.prog 10 #[] W fun e w'=>e=.returned (.bool true)∧Below W.heap.size W w'):=fun W h=>shown12_any C W
 have HF:Hid (∀ W,Below w.heap.size w W→Calls Tryz.prog 11 #[vh] W fun e w'=>e=.returned (.bool (decide (h.length≤80)))∧Below W.heap.size W w'):=fun W hb=>few12_any vh h W (Th.below hb)
 by_cases h1:h.length≤80
 ·rw [decide_eq_true h1] at HF
  have HJ:Hid (∀ W,Below w.heap.size w W→Calls Tryz.prog 12 #[vh,.int .i64 level] W fun e w'=>VRes W (judgeL h level) e w'):=fun W hb=>C.judge h vh W level (Th.below hb) Gh (by omega) gl
  have hj1:=judge_one h level
  have HSM:Hid (∀ (a b:Vd) ao ar bo br W,IsInts W ao a.2.2.1→IsEds W ar a.2.2.2.2→IsInts W bo b.2.2.1→IsEds W br b.2.2.2.2→Calls Tryz.prog 15 #[.agg (vdC a ao ar),.agg (vdC b bo br)] W fun e w'=>e=.returned (.bool (sameV a b))∧Below W.heap.size W w'):=fun a b ao ar bo br W h1 h2 h3 h4=>C.same a b ao ar bo br W h1 h2 h3 h4
  obtain ⟨⟨⟨lv,ac,o,⟨p,q,r⟩,g⟩,x⟩,hx⟩:∃ y,judgeL h level=y:=⟨_,rfl⟩
  rw [hx] at HJ hj1
  simp only at hj1
  obtain ⟨ah,ch,rfl,ih,jh,kh,HCh⟩:=Th.reads
  obtain ⟨n,hn⟩:∃ n,h.length=n:=⟨_,rfl⟩
  rw [hn] at HF HJ ⊢
  clear hx hn
  rcases hj1 with ⟨j1,j2⟩ | ⟨j1,j2⟩
  ·unfold zV at j2
   simp only [Prod.mk.injEq] at j2
   obtain ⟨rfl,rfl,rfl,⟨rfl,rfl,rfl⟩,rfl⟩:=j2
   have j3:(x != 0)=true:=bne_iff_ne.2 j1
   clear j1
   go_enter Tryz.func7,Tryz.ntmps7
   go_wp2_with fail
   refine (HSh.out _ (Below.refl w.heap.size w)).mono ?_
   rintro e w1 ⟨rfl,b1⟩
   have B1:=bel_trans (Below.refl w.heap.size w) b1
   go_wp2_with fail
   refine (HF.out _ B1).mono ?_
   rintro e w2 ⟨rfl,b2⟩
   have B2:=bel_trans B1 b2
   go_wp2_with fail
   refine (HJ.out _ B2).mono ?_
   rintro e w3 ⟨vo,vr,rfl,b3,O3,R3⟩
   obtain ⟨oa,oc,rfl⟩:=own_shape13 O3
   obtain ⟨ra,rc,rfl⟩:=own_shape13 R3
   have B3:=bel_trans B2 b3
   have X3:=SBox.new w3 28 #[.int .i64 0,.bool false,.slice oa 0 oc,.int .i64 0,.int .i64 0,.int .i64 0,.slice ra 0 rc]
   have D3:=B3.alloc B3.size (.cells #[.int .i64 0,.bool false,.slice oa 0 oc,.int .i64 0,.int .i64 0,.int .i64 0,.slice ra 0 rc] 28)
   have f0:=X3.cell 0 _ rfl
   have f1:=X3.cell 1 _ rfl
   have f2:=X3.cell 2 _ rfl
   have f3:=X3.cell 3 _ rfl
   have f4:=X3.cell 4 _ rfl
   have f5:=X3.cell 5 _ rfl
   have f6:=X3.cell 6 _ rfl
   have T1:IsInts (w3.alloc (.cells #[.int .i64 0,.bool false,.slice oa 0 oc,.int .i64 0,.int .i64 0,.int .i64 0,.slice ra 0 rc] 28)) (.slice oa 0 oc) ([]:List Int):=(IsRec.own intV_len (by omega) O3 (by simp)).below ((Below.refl _ _).alloc (Nat.le_refl _) _)
   have T2:IsEds (w3.alloc (.cells #[.int .i64 0,.bool false,.slice oa 0 oc,.int .i64 0,.int .i64 0,.int .i64 0,.slice ra 0 rc] 28)) (.slice ra 0 rc) ([]:List Ed):=(IsRec.own edV_len (by omega) R3 (by simp)).below ((Below.refl _ _).alloc (Nat.le_refl _) _)
   have T3:IsInts (w3.alloc (.cells #[.int .i64 0,.bool false,.slice oa 0 oc,.int .i64 0,.int .i64 0,.int .i64 0,.slice ra 0 rc] 28)) (.slice none 0 0) ([]:List Int):=IsRec.nil _ _ _
   have T4:IsEds (w3.alloc (.cells #[.int .i64 0,.bool false,.slice oa 0 oc,.int .i64 0,.int .i64 0,.int .i64 0,.slice ra 0 rc] 28)) (.slice none 0 0) ([]:List Ed):=IsRec.nil _ _ _
   have D:=HSM.out zV zV _ _ _ _ _ T1 T2 T3 T4
   rw [(sameV_iff zV zV).2 rfl] at D
   clear T1 T2 T3 T4 O3 R3
   go_wp2_with fail
   refine D.mono ?_
   rintro e w4 ⟨rfl,b4⟩
   go_wp2_with fail
   go_ret
   exact ⟨rfl,bel_trans D3 b4⟩
  ·obtain rfl:x=0:=j1
   rcases j2 with ⟨rfl,j3,rfl⟩ | ⟨rfl,rfl,j3,rfl⟩ | ⟨rfl,rfl,j3,j4⟩
   ·simp only [Prod.mk.injEq] at j3
    obtain ⟨rfl,rfl,rfl⟩:=j3
    go_enter Tryz.func7,Tryz.ntmps7
    go_wp2_with fail
    refine (HSh.out _ (Below.refl w.heap.size w)).mono ?_
    rintro e w1 ⟨rfl,b1⟩
    have B1:=bel_trans (Below.refl w.heap.size w) b1
    go_wp2_with fail
    refine (HF.out _ B1).mono ?_
    rintro e w2 ⟨rfl,b2⟩
    have B2:=bel_trans B1 b2
    go_wp2_with fail
    refine (HJ.out _ B2).mono ?_
    rintro e w3 ⟨vo,vr,rfl,b3,O3,R3⟩
    obtain ⟨oa,oc,rfl⟩:=own_shape13 O3
    obtain ⟨ra,rc,rfl⟩:=own_shape13 R3
    have B3:=bel_trans B2 b3
    have X3:=SBox.new w3 28 #[.int .i64 lv,.bool true,.slice oa o.length oc,.int .i64 0,.int .i64 0,.int .i64 0,.slice ra 0 rc]
    have D3:=B3.alloc B3.size (.cells #[.int .i64 lv,.bool true,.slice oa o.length oc,.int .i64 0,.int .i64 0,.int .i64 0,.slice ra 0 rc] 28)
    have f0:=X3.cell 0 _ rfl
    have f1:=X3.cell 1 _ rfl
    have f2:=X3.cell 2 _ rfl
    have f3:=X3.cell 3 _ rfl
    have f4:=X3.cell 4 _ rfl
    have f5:=X3.cell 5 _ rfl
    have f6:=X3.cell 6 _ rfl
    clear O3 R3
    go_wp2_with fail
    go_ret
    exact ⟨rfl,D3⟩
   ·have j5:(p != 0)=true:=bne_iff_ne.2 j3
    clear j3
    go_enter Tryz.func7,Tryz.ntmps7
    go_wp2_with fail
    refine (HSh.out _ (Below.refl w.heap.size w)).mono ?_
    rintro e w1 ⟨rfl,b1⟩
    have B1:=bel_trans (Below.refl w.heap.size w) b1
    go_wp2_with fail
    refine (HF.out _ B1).mono ?_
    rintro e w2 ⟨rfl,b2⟩
    have B2:=bel_trans B1 b2
    go_wp2_with fail
    refine (HJ.out _ B2).mono ?_
    rintro e w3 ⟨vo,vr,rfl,b3,O3,R3⟩
    obtain ⟨oa,oc,rfl⟩:=own_shape13 O3
    obtain ⟨ra,rc,rfl⟩:=own_shape13 R3
    have B3:=bel_trans B2 b3
    have X3:=SBox.new w3 28 #[.int .i64 lv,.bool false,.slice oa 0 oc,.int .i64 p,.int .i64 q,.int .i64 r,.slice ra 0 rc]
    have D3:=B3.alloc B3.size (.cells #[.int .i64 lv,.bool false,.slice oa 0 oc,.int .i64 p,.int .i64 q,.int .i64 r,.slice ra 0 rc] 28)
    have f0:=X3.cell 0 _ rfl
    have f1:=X3.cell 1 _ rfl
    have f2:=X3.cell 2 _ rfl
    have f3:=X3.cell 3 _ rfl
    have f4:=X3.cell 4 _ rfl
    have f5:=X3.cell 5 _ rfl
    have f6:=X3.cell 6 _ rfl
    clear O3 R3
    go_wp2_with fail
    go_ret
    exact ⟨rfl,D3⟩
   ·simp only [Prod.mk.injEq] at j3
    obtain ⟨rfl,rfl,rfl⟩:=j3
    have j5:0 < g.length:=List.length_pos_iff.2 j4
    have j6:(0:Int) < (g.length:Int):=by omega
    clear j4
    go_enter Tryz.func7,Tryz.ntmps7
    go_wp2_with fail
    refine (HSh.out _ (Below.refl w.heap.size w)).mono ?_
    rintro e w1 ⟨rfl,b1⟩
    have B1:=bel_trans (Below.refl w.heap.size w) b1
    go_wp2_with fail
    refine (HF.out _ B1).mono ?_
    rintro e w2 ⟨rfl,b2⟩
    have B2:=bel_trans B1 b2
    go_wp2_with fail
    refine (HJ.out _ B2).mono ?_
    rintro e w3 ⟨vo,vr,rfl,b3,O3,R3⟩
    obtain ⟨oa,oc,rfl⟩:=own_shape13 O3
    obtain ⟨ra,rc,rfl⟩:=own_shape13 R3
    have B3:=bel_trans B2 b3
    have X3:=SBox.new w3 28 #[.int .i64 lv,.bool false,.slice oa 0 oc,.int .i64 0,.int .i64 0,.int .i64 0,.slice ra g.length rc]
    have D3:=B3.alloc B3.size (.cells #[.int .i64 lv,.bool false,.slice oa 0 oc,.int .i64 0,.int .i64 0,.int .i64 0,.slice ra g.length rc] 28)
    have f0:=X3.cell 0 _ rfl
    have f1:=X3.cell 1 _ rfl
    have f2:=X3.cell 2 _ rfl
    have f3:=X3.cell 3 _ rfl
    have f4:=X3.cell 4 _ rfl
    have f5:=X3.cell 5 _ rfl
    have f6:=X3.cell 6 _ rfl
    clear O3 R3
    go_wp2_with fail
    go_ret
    exact ⟨rfl,D3⟩
 ·rw [decide_eq_false h1] at HF
  obtain ⟨ah,ch,rfl,ih,jh,kh,HCh⟩:=Th.reads
  obtain ⟨n,hn⟩:∃ n,h.length=n:=⟨_,rfl⟩
  rw [hn] at HF ⊢
  clear hn
  go_enter Tryz.func7,Tryz.ntmps7
  go_wp2_with fail
  refine (HSh.out _ (Below.refl w.heap.size w)).mono ?_
  rintro e w1 ⟨rfl,b1⟩
  have B1:=bel_trans (Below.refl w.heap.size w) b1
  go_wp2_with fail
  refine (HF.out _ B1).mono ?_
  rintro e w2 ⟨rfl,b2⟩
  have B2:=bel_trans B1 b2
  go_wp2_with fail
  go_ret
  exact ⟨rfl,B2⟩
end Go.Proofs.YtiihegldhnlleaaGreat
