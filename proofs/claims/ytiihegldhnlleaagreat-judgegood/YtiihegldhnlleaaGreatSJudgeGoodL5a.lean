/-
  The walk of JudgeGood.
-/
import Derived.Test.YtiihegldhnlleaaGreatCShown12
import Derived.Test.YtiihegldhnlleaaGreatSJudgeGoodR12Good
namespace Go.Proofs.YtiihegldhnlleaaGreat
set_option maxRecDepth 100000
open Go.RowKit
set_option linter.unusedVariables false
attribute [local go_sem] ba_size
set_option maxHeartbeats 4000000 in
theorem good12_walk (C:P12C) (w:World) (vh:Value) (h:List Ev) (Th:IsEvs w vh h) (Gh:∀ x∈h,goodE x) (level:Int) (gl:-9223372036854775808≤level∧level≤9223372036854775807) :
 Calls Tryz.prog 5 #[vh,.int .i64 level] w fun e w'=>e=.returned (.bool true)∧Below w.heap.size w w':=by
 have HSh:Hid (∀ W,Below w.heap.size w W→Calls Tryz.prog 10 #[] W fun e w'=>e=.returned (.bool true)∧Below W.heap.size W w'):=fun W h=>shown12_any C W
 have HF:Hid (∀ W,Below w.heap.size w W→Calls Tryz.prog 11 #[vh] W fun e w'=>e=.returned (.bool (decide (h.length≤80)))∧Below W.heap.size W w'):=fun W hb=>few12_any vh h W (Th.below hb)
 have HM:Hid (∀ W,Below w.heap.size w W→Calls Tryz.prog 19 #[vh] W fun e w'=>e=.returned (.tuple #[.int .i64 ((formedL h).1:Int),.int .i64 ((formedL h).2:Int)])∧Below W.heap.size W w'):=fun W hb=>rformed_any h vh W (Th.below hb)
 by_cases h1:h.length≤80
 ·rw [decide_eq_true h1] at HF
  by_cases h2:(formedL h).2=0
  ·by_cases h3:level < 1
   ·skip
    obtain ⟨ah,ch,rfl,ih,jh,kh,HCh⟩:=Th.reads
    obtain ⟨n,hn⟩:∃ n,h.length=n:=⟨_,rfl⟩
    obtain ⟨f1,hf1⟩:∃ y,(formedL h).1=y:=⟨_,rfl⟩
    obtain ⟨f2,hf2⟩:∃ y,(formedL h).2=y:=⟨_,rfl⟩
    rw [hf1,hf2] at HM
    rw [h2] at hf2
    subst hf2
    rw [hn] at HF HM ⊢
    clear hn hf1
    go_enter Tryz.func5,Tryz.ntmps5
    go_wp2_with fail
    refine (HSh.out _ (Below.refl w.heap.size w)).mono ?_
    rintro e w1 ⟨rfl,b1⟩
    have B1:=bel_trans (Below.refl w.heap.size w) b1
    go_wp2_with fail
    refine (HF.out _ B1).mono ?_
    rintro e w2 ⟨rfl,b2⟩
    have B2:=bel_trans B1 b2
    go_wp2_with fail
    refine (HM.out _ B2).mono ?_
    rintro e w3 ⟨rfl,b3⟩
    have B3:=bel_trans B2 b3
    go_wp2_with fail
    go_ret
    exact ⟨rfl,B3⟩
   ·by_cases h4:2 < level
    ·skip
     obtain ⟨ah,ch,rfl,ih,jh,kh,HCh⟩:=Th.reads
     obtain ⟨n,hn⟩:∃ n,h.length=n:=⟨_,rfl⟩
     obtain ⟨f1,hf1⟩:∃ y,(formedL h).1=y:=⟨_,rfl⟩
     obtain ⟨f2,hf2⟩:∃ y,(formedL h).2=y:=⟨_,rfl⟩
     rw [hf1,hf2] at HM
     rw [h2] at hf2
     subst hf2
     rw [hn] at HF HM ⊢
     clear hn hf1
     go_enter Tryz.func5,Tryz.ntmps5
     go_wp2_with fail
     refine (HSh.out _ (Below.refl w.heap.size w)).mono ?_
     rintro e w1 ⟨rfl,b1⟩
     have B1:=bel_trans (Below.refl w.heap.size w) b1
     go_wp2_with fail
     refine (HF.out _ B1).mono ?_
     rintro e w2 ⟨rfl,b2⟩
     have B2:=bel_trans B1 b2
     go_wp2_with fail
     refine (HM.out _ B2).mono ?_
     rintro e w3 ⟨rfl,b3⟩
     have B3:=bel_trans B2 b3
     go_wp2_with fail
     go_ret
     exact ⟨rfl,B3⟩
    ·have hw:=(formed_ok h).1 h2
     have hl:level=1∨level=2:=by omega
     have hg:=judge_good hw level hl
     have HJ:Hid (∀ W,Below w.heap.size w W→Calls Tryz.prog 12 #[vh,.int .i64 level] W fun e w'=>VRes W (judgeL h level) e w'):=fun W hb=>C.judge h vh W level (Th.below hb) Gh (by omega) gl
     have HG:Hid (∀ W,Below w.heap.size w W→Calls Tryz.prog 20 #[vh,.int .i64 level] W fun e w'=>e=.returned (.bool (judgeL h level).1.2.1)∧Below W.heap.size W w'):=fun W hb=>(rgood_any h vh W level (Th.below hb) hw hl).mono (fun e w' ⟨b,e1,e2,e3⟩=>⟨by rw [e1];have:b=(judgeL h level).1.2.1:=Bool.eq_iff_iff.2 (e2.trans hg.2.2.symm);rw [this],e3⟩)
     obtain ⟨⟨⟨lv,ac,o,⟨p,q,r⟩,g⟩,x⟩,hx⟩:∃ y,judgeL h level=y:=⟨_,rfl⟩
     rw [hx] at HJ HG hg
     simp only at HJ HG hg
     obtain ⟨rfl,rfl,_⟩:=hg
     obtain ⟨ah,ch,rfl,ih,jh,kh,HCh⟩:=Th.reads
     obtain ⟨n,hn⟩:∃ n,h.length=n:=⟨_,rfl⟩
     obtain ⟨f1,hf1⟩:∃ y,(formedL h).1=y:=⟨_,rfl⟩
     obtain ⟨f2,hf2⟩:∃ y,(formedL h).2=y:=⟨_,rfl⟩
     rw [hf1,hf2] at HM
     rw [h2] at hf2
     subst hf2
     have e_l:(lv==lv)=true:=beq_self_eq_true _
     have e_a:(ac==ac)=true:=beq_self_eq_true _
     rw [hn] at HF HM HJ HG ⊢
     clear hn hf1 hx hw hl h2
     go_enter Tryz.func5,Tryz.ntmps5
     go_wp2_with fail
     refine (HSh.out _ (Below.refl w.heap.size w)).mono ?_
     rintro e w1 ⟨rfl,b1⟩
     have B1:=bel_trans (Below.refl w.heap.size w) b1
     go_wp2_with fail
     refine (HF.out _ B1).mono ?_
     rintro e w2 ⟨rfl,b2⟩
     have B2:=bel_trans B1 b2
     go_wp2_with fail
     refine (HM.out _ B2).mono ?_
     rintro e w3 ⟨rfl,b3⟩
     have B3:=bel_trans B2 b3
     go_wp2_with fail
     refine (HJ.out _ B3).mono ?_
     rintro e w4 ⟨vo,vr,rfl,b4,O4,R4⟩
     obtain ⟨oa,oc,rfl⟩:=own_shape13 O4
     obtain ⟨ra,rc,rfl⟩:=own_shape13 R4
     have B4:=bel_trans B3 b4
     have X4:=SBox.new w4 28 #[.int .i64 lv,.bool ac,.slice oa o.length oc,.int .i64 p,.int .i64 q,.int .i64 r,.slice ra g.length rc]
     have D4:=B4.alloc B4.size (.cells #[.int .i64 lv,.bool ac,.slice oa o.length oc,.int .i64 p,.int .i64 q,.int .i64 r,.slice ra g.length rc] 28)
     have f0:=X4.cell 0 _ rfl
     have f1':=X4.cell 1 _ rfl
     have S0:(fun V=>Below (w4.alloc (.cells #[.int .i64 lv,.bool ac,.slice oa o.length oc,.int .i64 p,.int .i64 q,.int .i64 r,.slice ra g.length rc] 28)).heap.size (w4.alloc (.cells #[.int .i64 lv,.bool ac,.slice oa o.length oc,.int .i64 p,.int .i64 q,.int .i64 r,.slice ra g.length rc] 28)) V∧V.cell? ⟨w4.heap.size,0,none⟩=some (.int .i64 lv)∧V.cell? ⟨w4.heap.size,1,none⟩=some (.bool ac)) (w4.alloc (.cells #[.int .i64 lv,.bool ac,.slice oa o.length oc,.int .i64 p,.int .i64 q,.int .i64 r,.slice ra g.length rc] 28)).drew:=⟨(Below.refl _ _).drew,f0,f1'⟩
     have keepS:∀ V V':World,(fun V=>Below (w4.alloc (.cells #[.int .i64 lv,.bool ac,.slice oa o.length oc,.int .i64 p,.int .i64 q,.int .i64 r,.slice ra g.length rc] 28)).heap.size (w4.alloc (.cells #[.int .i64 lv,.bool ac,.slice oa o.length oc,.int .i64 p,.int .i64 q,.int .i64 r,.slice ra g.length rc] 28)) V∧V.cell? ⟨w4.heap.size,0,none⟩=some (.int .i64 lv)∧V.cell? ⟨w4.heap.size,1,none⟩=some (.bool ac)) V→Below V.heap.size V V'→(fun V=>Below (w4.alloc (.cells #[.int .i64 lv,.bool ac,.slice oa o.length oc,.int .i64 p,.int .i64 q,.int .i64 r,.slice ra g.length rc] 28)).heap.size (w4.alloc (.cells #[.int .i64 lv,.bool ac,.slice oa o.length oc,.int .i64 p,.int .i64 q,.int .i64 r,.slice ra g.length rc] 28)) V∧V.cell? ⟨w4.heap.size,0,none⟩=some (.int .i64 lv)∧V.cell? ⟨w4.heap.size,1,none⟩=some (.bool ac)) V':=fun V V' ⟨a,b,c⟩ d=>⟨bel_trans a d,cell_bel d b,cell_bel d c⟩
     clear O4 R4 X4
     go_wp2_with fail
     go_region_held3 (fun V=>Below (w4.alloc (.cells #[.int .i64 lv,.bool ac,.slice oa o.length oc,.int .i64 p,.int .i64 q,.int .i64 r,.slice ra g.length rc] 28)).heap.size (w4.alloc (.cells #[.int .i64 lv,.bool ac,.slice oa o.length oc,.int .i64 p,.int .i64 q,.int .i64 r,.slice ra g.length rc] 28)) V∧V.cell? ⟨w4.heap.size,0,none⟩=some (.int .i64 lv)∧V.cell? ⟨w4.heap.size,1,none⟩=some (.bool ac)) (first | exact S0 | exact keepS _ _ (by assumption) (by assumption)) (first | (go_at_call 20;refine (HG.out _ (bel_trans D4 (And.left (by assumption)))).mono ?_;rintro e' w' ⟨rfl,b8⟩))
     rename_i hHeld8
     have s8:=hHeld8.1
     clear S0 keepS hHeld8
     go_wp2_with fail
     go_ret
     exact ⟨rfl,bel_trans D4 s8⟩
  ·have h3:(((formedL h).2:Int) != 0)=true:=bne_iff_ne.2 (by omega)
   obtain ⟨ah,ch,rfl,ih,jh,kh,HCh⟩:=Th.reads
   obtain ⟨n,hn⟩:∃ n,h.length=n:=⟨_,rfl⟩
   obtain ⟨f1,hf1⟩:∃ y,(formedL h).1=y:=⟨_,rfl⟩
   obtain ⟨f2,hf2⟩:∃ y,(formedL h).2=y:=⟨_,rfl⟩
   rw [hf1,hf2] at HM
   rw [hf2] at h3
   rw [hn] at HF HM ⊢
   clear hn hf1 hf2
   go_enter Tryz.func5,Tryz.ntmps5
   go_wp2_with fail
   refine (HSh.out _ (Below.refl w.heap.size w)).mono ?_
   rintro e w1 ⟨rfl,b1⟩
   have B1:=bel_trans (Below.refl w.heap.size w) b1
   go_wp2_with fail
   refine (HF.out _ B1).mono ?_
   rintro e w2 ⟨rfl,b2⟩
   have B2:=bel_trans B1 b2
   go_wp2_with fail
   refine (HM.out _ B2).mono ?_
   rintro e w3 ⟨rfl,b3⟩
   have B3:=bel_trans B2 b3
   go_wp2_with fail
   go_ret
   exact ⟨rfl,B3⟩
 ·rw [decide_eq_false h1] at HF
  obtain ⟨ah,ch,rfl,ih,jh,kh,HCh⟩:=Th.reads
  obtain ⟨n,hn⟩:∃ n,h.length=n:=⟨_,rfl⟩
  obtain ⟨f1,hf1⟩:∃ y,(formedL h).1=y:=⟨_,rfl⟩
  obtain ⟨f2,hf2⟩:∃ y,(formedL h).2=y:=⟨_,rfl⟩
  rw [hf1,hf2] at HM
  rw [hn] at HF HM ⊢
  clear hn hf1 hf2
  go_enter Tryz.func5,Tryz.ntmps5
  go_wp2_with fail
  refine (HSh.out _ (Below.refl w.heap.size w)).mono ?_
  rintro e w1 ⟨rfl,b1⟩
  have B1:=bel_trans (Below.refl w.heap.size w) b1
  go_wp2_with fail
  refine (HF.out _ B1).mono ?_
  rintro e w2 ⟨rfl,b2⟩
  have B2:=bel_trans B1 b2
  go_wp2_with fail
  refine (HM.out _ B2).mono ?_
  rintro e w3 ⟨rfl,b3⟩
  have B3:=bel_trans B2 b3
  go_wp2_with fail
  go_ret
  exact ⟨rfl,B3⟩
end Go.Proofs.YtiihegldhnlleaaGreat
