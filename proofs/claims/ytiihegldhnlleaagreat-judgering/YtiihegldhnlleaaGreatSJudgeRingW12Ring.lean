/-
  The walk of JudgeRing.
-/
import Derived.Test.YtiihegldhnlleaaGreatSJudgeRingW12Tells
namespace Go.Proofs.YtiihegldhnlleaaGreat
set_option maxRecDepth 100000
open Go.RowKit
set_option linter.unusedVariables false
attribute [local go_sem] ba_size
def InK (E:List Ed) (x:Ed) (k:Nat):Prop:=∃ j,∃ hj:j < E.length,j < k∧E[j]=x
def AtB (b:Bool) (P:Prop):Prop:=b=true↔P
theorem inK_zero (E:List Ed) (x:Ed):AtB false (InK E x 0):=⟨fun hh=>(by cases hh),fun ⟨j,_,hj,_⟩=>absurd hj (by omega)⟩
theorem inK_true (E:List Ed) (x:Ed) (k:Nat) (h:AtB true (InK E x k)):AtB true (InK E x (k+1)):=⟨fun _=>by obtain ⟨j,hj,h1,h2⟩:=h.1 rfl;exact ⟨j,hj,by omega,h2⟩,fun _=>rfl⟩
theorem inK_eq (E:List Ed) (x:Ed) (k:Nat) (hk:k < E.length) (h:E[k]=x):AtB true (InK E x (k+1)):=⟨fun _=>⟨k,hk,by omega,h⟩,fun _=>rfl⟩
theorem inK_ne (E:List Ed) (x:Ed) (k:Nat) (hk:k < E.length) (h:AtB false (InK E x k)) (hne:E[k]≠x):AtB false (InK E x (k+1)):=⟨fun hh=>(by cases hh),fun ⟨j,hj,h1,h2⟩=>by
 rcases Nat.lt_or_ge j k with h' | h'
 ·exact h.2 ⟨j,hj,h',h2⟩
 ·obtain rfl:j=k:=by omega
  exact absurd h2 hne⟩
theorem inK_all12 (E:List Ed) (x:Ed) (b:Bool) (h:AtB b (InK E x E.length)) (hx:x∈E):b=true:=h.2 (by
 obtain ⟨j,hj,e⟩:=List.getElem_of_mem hx
 exact ⟨j,hj,hj,e⟩)
set_option maxHeartbeats 8000000 in
theorem ring12_walk (C:P12C) (w:World) (vh:Value) (h:List Ev) (Th:IsEvs w vh h) (Gh:∀ x∈h,goodE x) (level:Int) (gl:-9223372036854775808≤level∧level≤9223372036854775807) :
 Calls Tryz.prog 9 #[vh,.int .i64 level] w fun e w'=>e=.returned (.bool true)∧Below w.heap.size w w':=by
 have HSh:Hid (∀ W,Below w.heap.size w W→Calls Tryz.prog 10 #[] W fun e w'=>e=.returned (.bool true)∧Below W.heap.size W w'):=fun W h=>shown12_any C W
 have HF:Hid (∀ W,Below w.heap.size w W→Calls Tryz.prog 11 #[vh] W fun e w'=>e=.returned (.bool (decide (h.length≤80)))∧Below W.heap.size W w'):=fun W hb=>few12_any vh h W (Th.below hb)
 by_cases h1:h.length≤80
 ·rw [decide_eq_true h1] at HF
  have HJ:Hid (∀ W,Below w.heap.size w W→Calls Tryz.prog 12 #[vh,.int .i64 level] W fun e w'=>VRes W (judgeL h level) e w'):=fun W hb=>C.judge h vh W level (Th.below hb) Gh (by omega) gl
  have hcy:=judge_cyc h level
  have hfw:=judge_few h level
  obtain ⟨⟨⟨lv,ac,o,⟨p,q,r⟩,g⟩,x⟩,hx⟩:∃ y,judgeL h level=y:=⟨_,rfl⟩
  rw [hx] at HJ hcy hfw
  simp only at hcy hfw
  have hb2:=hfw.2
  obtain ⟨ah,ch,rfl,ih,jh,kh,HCh⟩:=Th.reads
  obtain ⟨n,hn⟩:∃ n,h.length=n:=⟨_,rfl⟩
  obtain ⟨m,hm⟩:∃ m,g.length=m:=⟨_,rfl⟩
  have HM:Hid (g.length=m):=hm
  by_cases hx0:x=0
  ·by_cases hg0:g=[]
   ·have hm0:m=0:=by rw [← hm,hg0];rfl
    rw [hn] at HF HJ ⊢
    clear hx hn hcy hfw hm
    subst hx0 hm0
    go_enter Tryz.func9,Tryz.ntmps9
    go_wp2_with fail
    refine (HSh.out _ (Below.refl w.heap.size w)).mono ?_
    rintro e w1 ⟨rfl,b1⟩
    have B1:=bel_trans (Below.refl w.heap.size w) b1
    go_wp2_with fail
    refine (HF.out _ B1).mono ?_
    rintro e w2 ⟨rfl,b2⟩
    have B2:=bel_trans B1 b2
    go_wp2_with fail
    refine (HJ.out _ B2).mono ?_
    rintro e w3 ⟨vo,vr,rfl,b3,O3,R3⟩
    obtain ⟨oa,oc,rfl⟩:=own_shape13 O3
    obtain ⟨ra,rc,rfl⟩:=own_shape13 R3
    have B3:=bel_trans B2 b3
    simp only [HM.out] at R3 ⊢
    have X3:=SBox.new w3 28 #[.int .i64 lv,.bool ac,.slice oa o.length oc,.int .i64 p,.int .i64 q,.int .i64 r,.slice ra 0 rc]
    have D3:=B3.alloc B3.size (.cells #[.int .i64 lv,.bool ac,.slice oa o.length oc,.int .i64 p,.int .i64 q,.int .i64 r,.slice ra 0 rc] 28)
    have u4:=X3.cell 6 _ rfl
    clear O3 R3
    go_wp2_with fail
    go_ret
    exact ⟨rfl,D3⟩
   ·obtain ⟨hl,hw,hcc,hin⟩:=hcy hx0 hg0
    have hm1:0 < m:=by rw [← hm];exact List.length_pos_iff.2 hg0
    have hbm:m≤1000000:=by omega
    have hm0:¬ m=0:=by omega
    have HCY:Hid (∀ i (hi:i < g.length),relE level g[i] (nxtE g i)):=fun i hi=>cyc_at level g hcc i hi
    have HIN:Hid (∀ e∈g,e∈edgesL h):=hin
    have RA:Hid (∀ W,Below w.heap.size w W→Calls Tryz.prog 23 #[.slice ah h.length ch] W fun e w'=>EdRow 54 W (edgesL h) e w'):=fun W hb=>rall10_any h (.slice ah h.length ch) W (Th.below hb) (by omega) (wf_keys hw)
    have hel:=edges_few h
    obtain ⟨E,hE⟩:∃ y,edgesL h=y:=⟨_,rfl⟩
    rw [hE] at RA HIN hel
    rw [hn] at HF HJ RA ⊢
    have j_m:((m:Int)==0)=false:=beq_eq_false_iff_ne.2 (by omega)
    clear hx hn hcy hfw hm hg0 hE hcc hin hw
    subst hx0
    go_enter Tryz.func9,Tryz.ntmps9
    go_wp2_with fail
    refine (HSh.out _ (Below.refl w.heap.size w)).mono ?_
    rintro e w1 ⟨rfl,b1⟩
    have B1:=bel_trans (Below.refl w.heap.size w) b1
    go_wp2_with fail
    refine (HF.out _ B1).mono ?_
    rintro e w2 ⟨rfl,b2⟩
    have B2:=bel_trans B1 b2
    go_wp2_with fail
    refine (HJ.out _ B2).mono ?_
    rintro e w3 ⟨vo,vr,rfl,b3,O3,R3⟩
    obtain ⟨oa,oc,rfl⟩:=own_shape13 O3
    obtain ⟨ra,rc,rfl⟩:=own_shape13 R3
    have B3:=bel_trans B2 b3
    simp only [HM.out] at R3 ⊢
    have X3:=SBox.new w3 28 #[.int .i64 lv,.bool ac,.slice oa o.length oc,.int .i64 p,.int .i64 q,.int .i64 r,.slice ra m rc]
    have D3:=B3.alloc B3.size (.cells #[.int .i64 lv,.bool ac,.slice oa o.length oc,.int .i64 p,.int .i64 q,.int .i64 r,.slice ra m rc] 28)
    have u4:=X3.cell 6 _ rfl
    have T_g:IsEds (w3.alloc (.cells #[.int .i64 lv,.bool ac,.slice oa o.length oc,.int .i64 p,.int .i64 q,.int .i64 r,.slice ra m rc] 28)) (.slice ra m rc) g:=(IsRec.own (L:=g) edV_len (by omega) R3 (by omega)).below ((Below.refl _ _).alloc (Nat.le_refl _) _)
    clear O3 R3
    go_wp2_with fail
    refine (RA.out _ D3).mono ?_
    rintro e w4 ⟨ve,rfl,b4,o4⟩
    have B4:=bel_trans D3 b4
    have X4:=X3.below b4
    have T_g4:=T_g.below b4
    have T_e:IsEds w4 ve E:=IsRec.own (L:=E) edV_len (by omega) o4 (by omega)
    obtain ⟨ae,ce,rfl,i_e,j_e,k_e,HCe⟩:=IsEds.reads T_e
    obtain ⟨ag,cg,eg,i_g,j_g,k_g,HCg⟩:=IsEds.reads T_g4
    simp only [Value.slice.injEq] at eg
    obtain ⟨rfl,hmm,rfl⟩:=eg
    clear hmm
    obtain ⟨nl,hnl⟩:∃ nl,E.length=nl:=⟨_,rfl⟩
    have HNL:Hid (E.length=nl):=hnl
    rw [hnl] at i_e k_e hel ⊢
    rw [HM.out] at i_g k_g
    have HCB:Hid (∀ V,Below w4.heap.size w4 V→V.cell? ⟨w3.heap.size,6,none⟩=some (.slice ra m rc)):=fun V hV=>(X4.below hV).cell 6 _ rfl
    clear hnl T_e T_g T_g4 o4 X3 X4 u4
    go_wp2_with fail
    go_loopw [10] (fun kv wr=>∃ i:Nat,i≤m∧kv=.int .i64 i∧Below w4.heap.size w4 wr) (fun kv _=>m - (intOf kv).toNat)
    case atStart=>exact ⟨0,Nat.zero_le _,rfl,Below.refl _ _⟩
    case round =>
     obtain ⟨wA,rfl⟩:∃ wA,wA=wr:=⟨_,rfl⟩
     obtain ⟨i,hi,rfl,hbi⟩:=hrel
     have cb:=HCB.out _ hbi
     by_cases hli:i < m
     ·have ji:(i:Int) < (m:Int):=by omega
      have jwi:IntKind.i64.wrap ((i:Int)+1)=(i:Int)+1:=by rw [IntKind.wrap_i64];omega
      have hi1:i < g.length:=by have:=HM.out;omega
      have hmod:(i+1) % m < m:=Nat.mod_lt _ hm1
      have hi2:(i+1) % m < g.length:=by have:=HM.out;omega
      obtain ⟨bg,og,rfl,HQg⟩:=HCg.out (by omega)
      have HR:=HCY.out i hi1
      have HMX:Hid (g[i]∈E):=HIN.out _ (List.getElem_mem hi1)
      have en:nxtE g i=g[(i+1) % m]'hi2:=by unfold nxtE;rw [HM.out,List.getD_eq_getElem?_getD,List.getElem?_eq_getElem hi2];rfl
      rw [en] at HR
      have HXC:Hid (∀ V,Below w4.heap.size w4 V→V.cell? ⟨bg,og+i*5,none⟩=some (.int .i64 g[i].1)∧V.cell? ⟨bg,og+i*5+1,none⟩=some (.int .i64 g[i].2.1)∧V.cell? ⟨bg,og+i*5+2,none⟩=some (.int .i64 g[i].2.2.1)∧V.cell? ⟨bg,og+i*5+3,none⟩=some (.int .i64 g[i].2.2.2.1)∧V.cell? ⟨bg,og+i*5+4,none⟩=some (.int .i64 g[i].2.2.2.2)):=fun V hV=>HQg.out i hi1 V hV
      have HYC:=HQg.out ((i+1) % m) hi2
      obtain ⟨⟨x0,x1,x2,x3,x4⟩,hx⟩:∃ y,g[i]=y:=⟨_,rfl⟩
      obtain ⟨⟨y0,y1,y2,y3,y4⟩,hy⟩:∃ y,g[(i+1) % m]'hi2=y:=⟨_,rfl⟩
      rw [hx] at HR HMX HXC
      rw [hy] at HR HYC
      have HYC2:Hid (∀ V,Below w4.heap.size w4 V→V.cell? ⟨bg,og+(i+1) % m*5,none⟩=some (.int .i64 y0)∧V.cell? ⟨bg,og+(i+1) % m*5+1,none⟩=some (.int .i64 y1)∧V.cell? ⟨bg,og+(i+1) % m*5+2,none⟩=some (.int .i64 y2)∧V.cell? ⟨bg,og+(i+1) % m*5+3,none⟩=some (.int .i64 y3)∧V.cell? ⟨bg,og+(i+1) % m*5+4,none⟩=some (.int .i64 y4)):=HYC
      obtain ⟨hr1,hr2⟩:=HR
      simp only at hr1 hr2
      have HR1:Hid (x2=y1):=hr1
      have HR2:Hid (¬ (level=2∧x0=3∧y0=3)):=hr2
      clear hx hy en HYC hr1 hr2
      obtain ⟨t,ht⟩:∃ t,(i+1) % m=t:=⟨_,rfl⟩
      rw [ht] at HYC2 hmod
      have jrem:((i:Int)+1).tmod (m:Int)=(t:Int):=by rw [← ht,show (i:Int)+1=((i+1:Nat):Int) by omega,← Int.ofNat_tmod]
      have jt:(t:Int) < (m:Int):=by omega
      clear ht hi1 hi2
      obtain ⟨c0,c1,c2,c3,c4⟩:=HXC.out _ hbi
      go_wp2_with fail
      refine wp_region_any (by kernel_rfl) ?_
      change wpAny _ _ _ _ _ _ _ (World.drew _)
      generalize hwd:World.drew _=wd
      have Bx:Below w4.heap.size w4 (wA.alloc (.cells #[.int .i64 x0,.int .i64 x1,.int .i64 x2,.int .i64 x3,.int .i64 x4] 54)):=hbi.alloc hbi.size _
      have Bd:Below w4.heap.size w4 wd:=by rw [← hwd];exact Bx.drew
      have Xd:SBox wd wA.heap.size 54 #[.int .i64 x0,.int .i64 x1,.int .i64 x2,.int .i64 x3,.int .i64 x4]:=by rw [← hwd];exact SBox.new wA 54 #[.int .i64 x0,.int .i64 x1,.int .i64 x2,.int .i64 x3,.int .i64 x4]
      clear hwd c0 c1 c2 c3 c4 cb
      have cd:=HCB.out _ Bd
      obtain ⟨d0,d1,d2,d3,d4⟩:=HYC2.out _ Bd
      refine any_of_C (C:=fun U=>U.cell? ⟨w3.heap.size,6,none⟩=some (.slice (some ⟨bg,og,none⟩) m rc)∧U.cell? ⟨bg,og+t*5,none⟩=some (.int .i64 y0)∧U.cell? ⟨bg,og+t*5+1,none⟩=some (.int .i64 y1)∧U.cell? ⟨bg,og+t*5+2,none⟩=some (.int .i64 y2)∧U.cell? ⟨bg,og+t*5+3,none⟩=some (.int .i64 y3)∧U.cell? ⟨bg,og+t*5+4,none⟩=some (.int .i64 y4)) 11 _ _ _ _ ?_
      refine takeCC [11] (i:=0) (v:=.pointer (some ⟨w3.heap.size,6,none⟩)) rfl (by kernel_rfl) (by kernel_rfl) (by kernel_rfl) (by kernel_rfl) (by kernel_rfl) (by kernel_rfl) (fun _ _ _ h=>h) (Or.inl ⟨by kernel_rfl,fun U hU=>by obtain ⟨r0,r1,r2,r3,r4,r5⟩:=hU;go_simp⟩) ?_
      refine takeCC [11] (i:=1) (v:=.slice (some ⟨bg,og,none⟩) m rc) rfl (by kernel_rfl) (by kernel_rfl) (by kernel_rfl) (by kernel_rfl) (by kernel_rfl) (by kernel_rfl) (fun _ _ _ h=>h) (Or.inl ⟨by kernel_rfl,fun U hU=>by obtain ⟨r0,r1,r2,r3,r4,r5⟩:=hU;go_simp⟩) ?_
      refine takeCC [11] (i:=2) (v:=.int .i64 (i:Int)) rfl (by kernel_rfl) (by kernel_rfl) (by kernel_rfl) (by kernel_rfl) (by kernel_rfl) (by kernel_rfl) (fun _ _ _ h=>h) (Or.inl ⟨by kernel_rfl,fun U hU=>by obtain ⟨r0,r1,r2,r3,r4,r5⟩:=hU;go_simp⟩) ?_
      refine takeCC [11] (i:=3) (v:=.int .i64 ((i:Int)+1)) rfl (by kernel_rfl) (by kernel_rfl) (by kernel_rfl) (by kernel_rfl) (by kernel_rfl) (by kernel_rfl) (fun _ _ _ h=>h) (Or.inl ⟨by kernel_rfl,fun U hU=>by obtain ⟨r0,r1,r2,r3,r4,r5⟩:=hU;go_simp⟩) ?_
      refine takeCC [11] (i:=4) (v:=.pointer (some ⟨w3.heap.size,6,none⟩)) rfl (by kernel_rfl) (by kernel_rfl) (by kernel_rfl) (by kernel_rfl) (by kernel_rfl) (by kernel_rfl) (fun _ _ _ h=>h) (Or.inl ⟨by kernel_rfl,fun U hU=>by obtain ⟨r0,r1,r2,r3,r4,r5⟩:=hU;go_simp⟩) ?_
      refine takeCC [11] (i:=5) (v:=.slice (some ⟨bg,og,none⟩) m rc) rfl (by kernel_rfl) (by kernel_rfl) (by kernel_rfl) (by kernel_rfl) (by kernel_rfl) (by kernel_rfl) (fun _ _ _ h=>h) (Or.inl ⟨by kernel_rfl,fun U hU=>by obtain ⟨r0,r1,r2,r3,r4,r5⟩:=hU;go_simp⟩) ?_
      refine takeCC [11] (i:=6) (v:=.int .i64 (m:Int)) rfl (by kernel_rfl) (by kernel_rfl) (by kernel_rfl) (by kernel_rfl) (by kernel_rfl) (by kernel_rfl) (fun _ _ _ h=>h) (Or.inl ⟨by kernel_rfl,fun U hU=>by obtain ⟨r0,r1,r2,r3,r4,r5⟩:=hU;go_simp⟩) ?_
      refine takeCC [11] (i:=7) (v:=.int .i64 (t:Int)) rfl (by kernel_rfl) (by kernel_rfl) (by kernel_rfl) (by kernel_rfl) (by kernel_rfl) (by kernel_rfl) (fun _ _ _ h=>h) (Or.inl ⟨by kernel_rfl,fun U hU=>by obtain ⟨r0,r1,r2,r3,r4,r5⟩:=hU;go_simp⟩) ?_
      refine takeCC [11] (i:=8) (v:=.pointer (some ⟨bg,og+t*5,none⟩)) rfl (by kernel_rfl) (by kernel_rfl) (by kernel_rfl) (by kernel_rfl) (by kernel_rfl) (by kernel_rfl) (fun _ _ _ h=>h) (Or.inl ⟨by kernel_rfl,fun U hU=>by obtain ⟨r0,r1,r2,r3,r4,r5⟩:=hU;go_simp⟩) ?_
      refine takeCC [11] (i:=9) (v:=.agg #[.int .i64 y0,.int .i64 y1,.int .i64 y2,.int .i64 y3,.int .i64 y4]) rfl (by kernel_rfl) (by kernel_rfl) (by kernel_rfl) (by kernel_rfl) (by kernel_rfl) (by kernel_rfl) (fun _ _ _ h=>h) (Or.inl ⟨by kernel_rfl,fun U hU=>by obtain ⟨r0,r1,r2,r3,r4,r5⟩:=hU;go_simp⟩) ?_
      refine consC (i:=10) (by kernel_rfl) (by kernel_rfl) ⟨cd,d0,d1,d2,d3,d4⟩ rfl (fun K hK=>?_)
      go_wp2_with fail
      refine lastC (by kernel_rfl) (by kernel_rfl) ⟨cell_al _ cd,cell_al _ d0,cell_al _ d1,cell_al _ d2,cell_al _ d3,cell_al _ d4⟩ (of_decide_eq_true (by kernel_rfl)) ?_
      refine any_seqI [11] [_] _ _ _ rfl (by kernel_rfl) ?_
      go_wp2_with fail
      have Xe:=Xd.alloc (.cells #[.int .i64 y0,.int .i64 y1,.int .i64 y2,.int .i64 y3,.int .i64 y4] 54)
      have Ye:=SBox.new wd 54 #[.int .i64 y0,.int .i64 y1,.int .i64 y2,.int .i64 y3,.int .i64 y4]
      have Be:Below w4.heap.size w4 (wd.alloc (.cells #[.int .i64 y0,.int .i64 y1,.int .i64 y2,.int .i64 y3,.int .i64 y4] 54)):=Bd.alloc Bd.size _
      clear Xd cd d0 d1 d2 d3 d4 Bd Bx
      go_loopw [13,14] (fun bv kv wr=>∃ (k:Nat) (b:Bool),k≤nl∧kv=.int .i64 k∧bv=.bool b∧Hid (AtB b (InK E (x0,x1,x2,x3,x4) k))∧Below w4.heap.size w4 wr∧SBox wr wA.heap.size 54 #[.int .i64 x0,.int .i64 x1,.int .i64 x2,.int .i64 x3,.int .i64 x4]∧SBox wr wd.heap.size 54 #[.int .i64 y0,.int .i64 y1,.int .i64 y2,.int .i64 y3,.int .i64 y4]) (fun _ kv _=>nl - (intOf kv).toNat)
      case atStart=>exact ⟨0,false,Nat.zero_le _,rfl,rfl,inK_zero E _,Be,Xe,Ye⟩
      case round =>
       obtain ⟨k,b,hk,rfl,rfl,HB,hbk,Xk,Yk⟩:=hrel
       by_cases hlk:k < nl
       ·have jk:(k:Int) < (nl:Int):=by omega
        have jwk:IntKind.i64.wrap ((k:Int)+1)=(k:Int)+1:=by rw [IntKind.wrap_i64];omega
        have hk1:k < E.length:=by have:=HNL.out;omega
        obtain ⟨be,oe,rfl,HQe⟩:=HCe.out (by omega)
        have HEC:=HQe.out k hk1
        have HN1:Hid (E[k]=(x0,x1,x2,x3,x4)→AtB true (InK E (x0,x1,x2,x3,x4) (k+1))):=fun hh=>inK_eq E _ k hk1 hh
        have HN0:Hid (AtB false (InK E (x0,x1,x2,x3,x4) k)→E[k]≠(x0,x1,x2,x3,x4)→AtB false (InK E (x0,x1,x2,x3,x4) (k+1))):=fun hh hne=>inK_ne E _ k hk1 hh hne
        obtain ⟨⟨e0,e1,e2,e3,e4⟩,he⟩:∃ y,E[k]=y:=⟨_,rfl⟩
        rw [he] at HEC HN1 HN0
        have HEC2:Hid (∀ V,Below w4.heap.size w4 V→V.cell? ⟨be,oe+k*5,none⟩=some (.int .i64 e0)∧V.cell? ⟨be,oe+k*5+1,none⟩=some (.int .i64 e1)∧V.cell? ⟨be,oe+k*5+2,none⟩=some (.int .i64 e2)∧V.cell? ⟨be,oe+k*5+3,none⟩=some (.int .i64 e3)∧V.cell? ⟨be,oe+k*5+4,none⟩=some (.int .i64 e4)):=HEC
        clear he HEC hk1
        cases b with
        | true =>
          have HN2:Hid (AtB true (InK E (x0,x1,x2,x3,x4) (k+1))):=inK_true E _ k HB.out
          go_wp2_with fail
          refine wp_region_any (by kernel_rfl) ?_
          change wpAny _ _ _ _ _ _ _ (World.drew _)
          generalize hwf:World.drew _=wf
          have Bd:Below w4.heap.size w4 wf:=by rw [← hwf];exact hbk.drew
          have Xf:SBox wf wA.heap.size 54 #[.int .i64 x0,.int .i64 x1,.int .i64 x2,.int .i64 x3,.int .i64 x4]:=by rw [← hwf];exact Xk
          have Yf:SBox wf wd.heap.size 54 #[.int .i64 y0,.int .i64 y1,.int .i64 y2,.int .i64 y3,.int .i64 y4]:=by rw [← hwf];exact Yk
          clear hwf
          obtain ⟨d0,d1,d2,d3,d4⟩:=HEC2.out _ Bd
          have v0:=Xf.cell 0 _ rfl
          have v1:=Xf.cell 1 _ rfl
          have v2:=Xf.cell 2 _ rfl
          have v3:=Xf.cell 3 _ rfl
          have v4:=Xf.cell 4 _ rfl
          refine any_of_C (C:=fun U=>U.cell? ⟨be,oe+k*5,none⟩=some (.int .i64 e0)∧U.cell? ⟨be,oe+k*5+1,none⟩=some (.int .i64 e1)∧U.cell? ⟨be,oe+k*5+2,none⟩=some (.int .i64 e2)∧U.cell? ⟨be,oe+k*5+3,none⟩=some (.int .i64 e3)∧U.cell? ⟨be,oe+k*5+4,none⟩=some (.int .i64 e4)∧U.cell? ⟨wA.heap.size,0,none⟩=some (.int .i64 x0)∧U.cell? ⟨wA.heap.size,1,none⟩=some (.int .i64 x1)∧U.cell? ⟨wA.heap.size,2,none⟩=some (.int .i64 x2)∧U.cell? ⟨wA.heap.size,3,none⟩=some (.int .i64 x3)∧U.cell? ⟨wA.heap.size,4,none⟩=some (.int .i64 x4)) 9 _ _ _ _ ?_
          refine takeCC [9] (i:=0) (v:=.bool true) rfl (by kernel_rfl) (by kernel_rfl) (by kernel_rfl) (by kernel_rfl) (by kernel_rfl) (by kernel_rfl) (fun _ _ _ h=>h) (Or.inl ⟨by kernel_rfl,fun U hU=>by obtain ⟨r0,r1,r2,r3,r4,r5,r6,r7,r8,r9⟩:=hU;go_simp⟩) ?_
          refine takeCC [9] (i:=1) (v:=.bool true) rfl (by kernel_rfl) (by kernel_rfl) (by kernel_rfl) (by kernel_rfl) (by kernel_rfl) (by kernel_rfl) (fun _ _ _ h=>h) (Or.inl ⟨by kernel_rfl,fun U hU=>by obtain ⟨r0,r1,r2,r3,r4,r5,r6,r7,r8,r9⟩:=hU;go_simp⟩) ?_
          refine takeCC [9] (i:=2) (v:=undef) rfl (by kernel_rfl) (by kernel_rfl) (by kernel_rfl) (by kernel_rfl) (by kernel_rfl) (by kernel_rfl) (fun _ _ _ h=>h) (Or.inr ⟨by kernel_rfl,rfl⟩) ?_
          refine takeCC [9] (i:=3) (v:=undef) rfl (by kernel_rfl) (by kernel_rfl) (by kernel_rfl) (by kernel_rfl) (by kernel_rfl) (by kernel_rfl) (fun _ _ _ h=>h) (Or.inr ⟨by kernel_rfl,rfl⟩) ?_
          refine takeCC [9] (i:=4) (v:=undef) rfl (by kernel_rfl) (by kernel_rfl) (by kernel_rfl) (by kernel_rfl) (by kernel_rfl) (by kernel_rfl) (fun _ _ _ h=>h) (Or.inr ⟨by kernel_rfl,rfl⟩) ?_
          refine takeCC [9] (i:=5) (v:=undef) rfl (by kernel_rfl) (by kernel_rfl) (by kernel_rfl) (by kernel_rfl) (by kernel_rfl) (by kernel_rfl) (fun _ _ _ h=>h) (Or.inr ⟨by kernel_rfl,rfl⟩) ?_
          refine takeCC [9] (i:=6) (v:=undef) rfl (by kernel_rfl) (by kernel_rfl) (by kernel_rfl) (by kernel_rfl) (by kernel_rfl) (by kernel_rfl) (fun _ _ _ h=>h) (Or.inr ⟨by kernel_rfl,rfl⟩) ?_
          refine takeCC [9] (i:=7) (v:=undef) rfl (by kernel_rfl) (by kernel_rfl) (by kernel_rfl) (by kernel_rfl) (by kernel_rfl) (by kernel_rfl) (fun _ _ _ h=>h) (Or.inr ⟨by kernel_rfl,rfl⟩) ?_
          refine takeCC [9] (i:=8) (v:=.bool true) rfl (by kernel_rfl) (by kernel_rfl) (by kernel_rfl) (by kernel_rfl) (by kernel_rfl) (by kernel_rfl) (fun _ _ _ h=>h) (Or.inl ⟨by kernel_rfl,fun U hU=>by obtain ⟨r0,r1,r2,r3,r4,r5,r6,r7,r8,r9⟩:=hU;go_simp⟩) ?_
          refine lastC (by kernel_rfl) (by kernel_rfl) ⟨d0,d1,d2,d3,d4,v0,v1,v2,v3,v4⟩ (of_decide_eq_true (by kernel_rfl)) ?_
          refine any_seqI [9] [_] _ _ _ rfl (by kernel_rfl) ?_
          go_wp2_with fail
          refine ⟨⟨k+1,true,by omega,by first | go_num | simp,rfl,HN2,Bd,Xf,Yf⟩,by simp [intOf];omega⟩
        | false =>
          by_cases q:((e0,e1,e2,e3,e4):Ed)=(x0,x1,x2,x3,x4)
          ·have HN2:Hid (AtB true (InK E (x0,x1,x2,x3,x4) (k+1))):=HN1.out q
           simp only [Prod.mk.injEq] at q
           obtain ⟨q0,q1,q2,q3,q4⟩:=q
           replace q0:=q0.symm
           replace q1:=q1.symm
           replace q2:=q2.symm
           replace q3:=q3.symm
           replace q4:=q4.symm
           subst q0 q1 q2 q3 q4
           go_wp2_with fail
           refine wp_region_any (by kernel_rfl) ?_
           change wpAny _ _ _ _ _ _ _ (World.drew _)
           generalize hwf:World.drew _=wf
           have Bd:Below w4.heap.size w4 wf:=by rw [← hwf];exact hbk.drew
           have Xf:SBox wf wA.heap.size 54 #[.int .i64 x0,.int .i64 x1,.int .i64 x2,.int .i64 x3,.int .i64 x4]:=by rw [← hwf];exact Xk
           have Yf:SBox wf wd.heap.size 54 #[.int .i64 y0,.int .i64 y1,.int .i64 y2,.int .i64 y3,.int .i64 y4]:=by rw [← hwf];exact Yk
           clear hwf
           obtain ⟨d0,d1,d2,d3,d4⟩:=HEC2.out _ Bd
           have v0:=Xf.cell 0 _ rfl
           have v1:=Xf.cell 1 _ rfl
           have v2:=Xf.cell 2 _ rfl
           have v3:=Xf.cell 3 _ rfl
           have v4:=Xf.cell 4 _ rfl
           refine any_of_C (C:=fun U=>U.cell? ⟨be,oe+k*5,none⟩=some (.int .i64 x0)∧U.cell? ⟨be,oe+k*5+1,none⟩=some (.int .i64 x1)∧U.cell? ⟨be,oe+k*5+2,none⟩=some (.int .i64 x2)∧U.cell? ⟨be,oe+k*5+3,none⟩=some (.int .i64 x3)∧U.cell? ⟨be,oe+k*5+4,none⟩=some (.int .i64 x4)∧U.cell? ⟨wA.heap.size,0,none⟩=some (.int .i64 x0)∧U.cell? ⟨wA.heap.size,1,none⟩=some (.int .i64 x1)∧U.cell? ⟨wA.heap.size,2,none⟩=some (.int .i64 x2)∧U.cell? ⟨wA.heap.size,3,none⟩=some (.int .i64 x3)∧U.cell? ⟨wA.heap.size,4,none⟩=some (.int .i64 x4)) 9 _ _ _ _ ?_
           refine takeCC [9] (i:=0) (v:=.bool false) rfl (by kernel_rfl) (by kernel_rfl) (by kernel_rfl) (by kernel_rfl) (by kernel_rfl) (by kernel_rfl) (fun _ _ _ h=>h) (Or.inl ⟨by kernel_rfl,fun U hU=>by obtain ⟨r0,r1,r2,r3,r4,r5,r6,r7,r8,r9⟩:=hU;go_simp⟩) ?_
           refine takeCC [9] (i:=1) (v:=.bool false) rfl (by kernel_rfl) (by kernel_rfl) (by kernel_rfl) (by kernel_rfl) (by kernel_rfl) (by kernel_rfl) (fun _ _ _ h=>h) (Or.inl ⟨by kernel_rfl,fun U hU=>by obtain ⟨r0,r1,r2,r3,r4,r5,r6,r7,r8,r9⟩:=hU;go_simp⟩) ?_
           refine takeCC [9] (i:=2) (v:=.slice (some ⟨be,oe,none⟩) nl ce) rfl (by kernel_rfl) (by kernel_rfl) (by kernel_rfl) (by kernel_rfl) (by kernel_rfl) (by kernel_rfl) (fun _ _ _ h=>h) (Or.inl ⟨by kernel_rfl,fun U hU=>by obtain ⟨r0,r1,r2,r3,r4,r5,r6,r7,r8,r9⟩:=hU;go_simp⟩) ?_
           refine takeCC [9] (i:=3) (v:=.int .i64 (k:Int)) rfl (by kernel_rfl) (by kernel_rfl) (by kernel_rfl) (by kernel_rfl) (by kernel_rfl) (by kernel_rfl) (fun _ _ _ h=>h) (Or.inl ⟨by kernel_rfl,fun U hU=>by obtain ⟨r0,r1,r2,r3,r4,r5,r6,r7,r8,r9⟩:=hU;go_simp⟩) ?_
           refine takeCC [9] (i:=4) (v:=.pointer (some ⟨be,oe+k*5,none⟩)) rfl (by kernel_rfl) (by kernel_rfl) (by kernel_rfl) (by kernel_rfl) (by kernel_rfl) (by kernel_rfl) (fun _ _ _ h=>h) (Or.inl ⟨by kernel_rfl,fun U hU=>by obtain ⟨r0,r1,r2,r3,r4,r5,r6,r7,r8,r9⟩:=hU;go_simp⟩) ?_
           refine takeCC [9] (i:=5) (v:=.agg #[.int .i64 x0,.int .i64 x1,.int .i64 x2,.int .i64 x3,.int .i64 x4]) rfl (by kernel_rfl) (by kernel_rfl) (by kernel_rfl) (by kernel_rfl) (by kernel_rfl) (by kernel_rfl) (fun _ _ _ h=>h) (Or.inl ⟨by kernel_rfl,fun U hU=>by obtain ⟨r0,r1,r2,r3,r4,r5,r6,r7,r8,r9⟩:=hU;go_simp⟩) ?_
           refine takeCC [9] (i:=6) (v:=.agg #[.int .i64 x0,.int .i64 x1,.int .i64 x2,.int .i64 x3,.int .i64 x4]) rfl (by kernel_rfl) (by kernel_rfl) (by kernel_rfl) (by kernel_rfl) (by kernel_rfl) (by kernel_rfl) (fun _ _ _ h=>h) (Or.inl ⟨by kernel_rfl,fun U hU=>by obtain ⟨r0,r1,r2,r3,r4,r5,r6,r7,r8,r9⟩:=hU;go_simp⟩) ?_
           refine takeCC [9] (i:=7) (v:=.bool true) rfl (by kernel_rfl) (by kernel_rfl) (by kernel_rfl) (by kernel_rfl) (by kernel_rfl) (by kernel_rfl) (fun _ _ _ h=>h) (Or.inl ⟨by kernel_rfl,fun U hU=>by obtain ⟨r0,r1,r2,r3,r4,r5,r6,r7,r8,r9⟩:=hU;go_simp⟩) ?_
           refine takeCC [9] (i:=8) (v:=.bool true) rfl (by kernel_rfl) (by kernel_rfl) (by kernel_rfl) (by kernel_rfl) (by kernel_rfl) (by kernel_rfl) (fun _ _ _ h=>h) (Or.inl ⟨by kernel_rfl,fun U hU=>by obtain ⟨r0,r1,r2,r3,r4,r5,r6,r7,r8,r9⟩:=hU;go_simp⟩) ?_
           refine lastC (by kernel_rfl) (by kernel_rfl) ⟨d0,d1,d2,d3,d4,v0,v1,v2,v3,v4⟩ (of_decide_eq_true (by kernel_rfl)) ?_
           refine any_seqI [9] [_] _ _ _ rfl (by kernel_rfl) ?_
           go_wp2_with fail
           refine ⟨⟨k+1,true,by omega,by first | go_num | simp,rfl,HN2,Bd,Xf,Yf⟩,by simp [intOf];omega⟩
          ·have HN2:Hid (AtB false (InK E (x0,x1,x2,x3,x4) (k+1))):=HN0.out HB.out q
           have Q5:Hid (e0=x0→e1=x1→e2=x2→e3=x3→¬ e4=x4):=fun h0 h1 h2 h3 h4=>q (by rw [h0,h1,h2,h3,h4])
           clear q
           go_wp2_with fail
           refine wp_region_any (by kernel_rfl) ?_
           change wpAny _ _ _ _ _ _ _ (World.drew _)
           generalize hwf:World.drew _=wf
           have Bd:Below w4.heap.size w4 wf:=by rw [← hwf];exact hbk.drew
           have Xf:SBox wf wA.heap.size 54 #[.int .i64 x0,.int .i64 x1,.int .i64 x2,.int .i64 x3,.int .i64 x4]:=by rw [← hwf];exact Xk
           have Yf:SBox wf wd.heap.size 54 #[.int .i64 y0,.int .i64 y1,.int .i64 y2,.int .i64 y3,.int .i64 y4]:=by rw [← hwf];exact Yk
           clear hwf
           obtain ⟨d0,d1,d2,d3,d4⟩:=HEC2.out _ Bd
           have v0:=Xf.cell 0 _ rfl
           have v1:=Xf.cell 1 _ rfl
           have v2:=Xf.cell 2 _ rfl
           have v3:=Xf.cell 3 _ rfl
           have v4:=Xf.cell 4 _ rfl
           refine any_of_C (C:=fun U=>U.cell? ⟨be,oe+k*5,none⟩=some (.int .i64 e0)∧U.cell? ⟨be,oe+k*5+1,none⟩=some (.int .i64 e1)∧U.cell? ⟨be,oe+k*5+2,none⟩=some (.int .i64 e2)∧U.cell? ⟨be,oe+k*5+3,none⟩=some (.int .i64 e3)∧U.cell? ⟨be,oe+k*5+4,none⟩=some (.int .i64 e4)∧U.cell? ⟨wA.heap.size,0,none⟩=some (.int .i64 x0)∧U.cell? ⟨wA.heap.size,1,none⟩=some (.int .i64 x1)∧U.cell? ⟨wA.heap.size,2,none⟩=some (.int .i64 x2)∧U.cell? ⟨wA.heap.size,3,none⟩=some (.int .i64 x3)∧U.cell? ⟨wA.heap.size,4,none⟩=some (.int .i64 x4)) 9 _ _ _ _ ?_
           refine takeCC [9] (i:=0) (v:=.bool false) rfl (by kernel_rfl) (by kernel_rfl) (by kernel_rfl) (by kernel_rfl) (by kernel_rfl) (by kernel_rfl) (fun _ _ _ h=>h) (Or.inl ⟨by kernel_rfl,fun U hU=>by obtain ⟨r0,r1,r2,r3,r4,r5,r6,r7,r8,r9⟩:=hU;go_simp⟩) ?_
           refine takeCC [9] (i:=1) (v:=.bool false) rfl (by kernel_rfl) (by kernel_rfl) (by kernel_rfl) (by kernel_rfl) (by kernel_rfl) (by kernel_rfl) (fun _ _ _ h=>h) (Or.inl ⟨by kernel_rfl,fun U hU=>by obtain ⟨r0,r1,r2,r3,r4,r5,r6,r7,r8,r9⟩:=hU;go_simp⟩) ?_
           refine takeCC [9] (i:=2) (v:=.slice (some ⟨be,oe,none⟩) nl ce) rfl (by kernel_rfl) (by kernel_rfl) (by kernel_rfl) (by kernel_rfl) (by kernel_rfl) (by kernel_rfl) (fun _ _ _ h=>h) (Or.inl ⟨by kernel_rfl,fun U hU=>by obtain ⟨r0,r1,r2,r3,r4,r5,r6,r7,r8,r9⟩:=hU;go_simp⟩) ?_
           refine takeCC [9] (i:=3) (v:=.int .i64 (k:Int)) rfl (by kernel_rfl) (by kernel_rfl) (by kernel_rfl) (by kernel_rfl) (by kernel_rfl) (by kernel_rfl) (fun _ _ _ h=>h) (Or.inl ⟨by kernel_rfl,fun U hU=>by obtain ⟨r0,r1,r2,r3,r4,r5,r6,r7,r8,r9⟩:=hU;go_simp⟩) ?_
           refine takeCC [9] (i:=4) (v:=.pointer (some ⟨be,oe+k*5,none⟩)) rfl (by kernel_rfl) (by kernel_rfl) (by kernel_rfl) (by kernel_rfl) (by kernel_rfl) (by kernel_rfl) (fun _ _ _ h=>h) (Or.inl ⟨by kernel_rfl,fun U hU=>by obtain ⟨r0,r1,r2,r3,r4,r5,r6,r7,r8,r9⟩:=hU;go_simp⟩) ?_
           refine takeCC [9] (i:=5) (v:=.agg #[.int .i64 e0,.int .i64 e1,.int .i64 e2,.int .i64 e3,.int .i64 e4]) rfl (by kernel_rfl) (by kernel_rfl) (by kernel_rfl) (by kernel_rfl) (by kernel_rfl) (by kernel_rfl) (fun _ _ _ h=>h) (Or.inl ⟨by kernel_rfl,fun U hU=>by obtain ⟨r0,r1,r2,r3,r4,r5,r6,r7,r8,r9⟩:=hU;go_simp⟩) ?_
           refine takeCC [9] (i:=6) (v:=.agg #[.int .i64 x0,.int .i64 x1,.int .i64 x2,.int .i64 x3,.int .i64 x4]) rfl (by kernel_rfl) (by kernel_rfl) (by kernel_rfl) (by kernel_rfl) (by kernel_rfl) (by kernel_rfl) (fun _ _ _ h=>h) (Or.inl ⟨by kernel_rfl,fun U hU=>by obtain ⟨r0,r1,r2,r3,r4,r5,r6,r7,r8,r9⟩:=hU;go_simp⟩) ?_
           refine takeCC [9] (i:=7) (v:=.bool false) rfl (by kernel_rfl) (by kernel_rfl) (by kernel_rfl) (by kernel_rfl) (by kernel_rfl) (by kernel_rfl) (fun _ _ _ h=>h) (Or.inl ⟨by kernel_rfl,fun U hU=>by obtain ⟨r0,r1,r2,r3,r4,r5,r6,r7,r8,r9⟩:=hU;go_simp;exact Q5.out⟩) ?_
           refine takeCC [9] (i:=8) (v:=.bool false) rfl (by kernel_rfl) (by kernel_rfl) (by kernel_rfl) (by kernel_rfl) (by kernel_rfl) (by kernel_rfl) (fun _ _ _ h=>h) (Or.inl ⟨by kernel_rfl,fun U hU=>by obtain ⟨r0,r1,r2,r3,r4,r5,r6,r7,r8,r9⟩:=hU;go_simp⟩) ?_
           refine lastC (by kernel_rfl) (by kernel_rfl) ⟨d0,d1,d2,d3,d4,v0,v1,v2,v3,v4⟩ (of_decide_eq_true (by kernel_rfl)) ?_
           refine any_seqI [9] [_] _ _ _ rfl (by kernel_rfl) ?_
           go_wp2_with fail
           refine ⟨⟨k+1,false,by omega,by first | go_num | simp,rfl,HN2,Bd,Xf,Yf⟩,by simp [intOf];omega⟩
       ·obtain rfl:k=nl:=by omega
        have jk:¬ (k:Int) < (k:Int):=by omega
        have hbt:b=true:=inK_all12 E _ b (by rw [HNL.out];exact HB.out) HMX.out
        subst hbt
        have v0:=Xk.cell 0 _ rfl
        have v2:=Xk.cell 2 _ rfl
        have z0:=Yk.cell 0 _ rfl
        have z1:=Yk.cell 1 _ rfl
        have e12:(x2 != y1)=false:=by rw [HR1.out];exact bne_self_eq_false _
        rcases hl with rfl | rfl
        ·go_wp2_with fail
         refine ⟨⟨i+1,by omega,by first | go_num | simp,hbk⟩,by simp [intOf];omega⟩
        ·by_cases hx3:x0=3
         ·have e3:(x0==3)=true:=by rw [hx3];rfl
          have e4:(y0==3)=false:=beq_eq_false_iff_ne.2 (fun hh=>HR2.out ⟨rfl,hx3,hh⟩)
          clear hx3
          go_wp2_with fail
          refine ⟨⟨i+1,by omega,by first | go_num | simp,hbk⟩,by simp [intOf];omega⟩
         ·have e3:(x0==3)=false:=beq_eq_false_iff_ne.2 hx3
          clear hx3
          go_wp2_with fail
          refine ⟨⟨i+1,by omega,by first | go_num | simp,hbk⟩,by simp [intOf];omega⟩
     ·obtain rfl:i=m:=by omega
      have ji:¬ (i:Int) < (i:Int):=by omega
      go_wp2_with fail
      go_ret
      exact ⟨rfl,bel_trans B4 hbi⟩
  ·have e_0:(x != 0)=true:=bne_iff_ne.2 hx0
   rw [hn] at HF HJ ⊢
   clear hx hn hcy hfw hm hx0
   go_enter Tryz.func9,Tryz.ntmps9
   go_wp2_with fail
   refine (HSh.out _ (Below.refl w.heap.size w)).mono ?_
   rintro e w1 ⟨rfl,b1⟩
   have B1:=bel_trans (Below.refl w.heap.size w) b1
   go_wp2_with fail
   refine (HF.out _ B1).mono ?_
   rintro e w2 ⟨rfl,b2⟩
   have B2:=bel_trans B1 b2
   go_wp2_with fail
   refine (HJ.out _ B2).mono ?_
   rintro e w3 ⟨vo,vr,rfl,b3,O3,R3⟩
   obtain ⟨oa,oc,rfl⟩:=own_shape13 O3
   obtain ⟨ra,rc,rfl⟩:=own_shape13 R3
   have B3:=bel_trans B2 b3
   simp only [HM.out] at R3 ⊢
   have X3:=SBox.new w3 28 #[.int .i64 lv,.bool ac,.slice oa o.length oc,.int .i64 p,.int .i64 q,.int .i64 r,.slice ra m rc]
   have D3:=B3.alloc B3.size (.cells #[.int .i64 lv,.bool ac,.slice oa o.length oc,.int .i64 p,.int .i64 q,.int .i64 r,.slice ra m rc] 28)
   have u4:=X3.cell 6 _ rfl
   clear O3 R3
   go_wp2_with fail
   go_ret
   exact ⟨rfl,D3⟩
 ·rw [decide_eq_false h1] at HF
  obtain ⟨ah,ch,rfl,ih,jh,kh,HCh⟩:=Th.reads
  obtain ⟨n,hn⟩:∃ n,h.length=n:=⟨_,rfl⟩
  rw [hn] at HF ⊢
  clear hn
  go_enter Tryz.func9,Tryz.ntmps9
  go_wp2_with fail
  refine (HSh.out _ (Below.refl w.heap.size w)).mono ?_
  rintro e w1 ⟨rfl,b1⟩
  have B1:=bel_trans (Below.refl w.heap.size w) b1
  go_wp2_with fail
  refine (HF.out _ B1).mono ?_
  rintro e w2 ⟨rfl,b2⟩
  have B2:=bel_trans B1 b2
  go_wp2_with fail
  go_ret
  exact ⟨rfl,B2⟩
end Go.Proofs.YtiihegldhnlleaaGreat
