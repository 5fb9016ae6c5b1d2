/-
  What ring.Order's closure does; what Order holds. What ring.Order answers of one node and no steps. What history.fault answers. What history.Formed answers. Wha
-/
import Derived.Test.YtkkenfhlgpjmjaaGreatDoorCP11Tk
import Derived.Test.YtkkenfhlgpjmjaaGreatDoorCP8Find
import Derived.Test.YtkkenfhlgpjmjaaGreatDoorCR8Formed
import Derived.Test.YtkkenfhlgpjmjaaGreatDoorCP3Crown
import Derived.Laws.EntriesVeiled
namespace Go.Proofs.YtkkenfhlgpjmjaaGreatDoor
set_option maxRecDepth 100000
open Go.RowKit Go.Maps
set_option linter.unusedVariables false
attribute [local go_sem] ba_size
def RdRes (B bn:Nat) (a:List Int) (x p:Int) (V':World):Prop:=∃ b,HpS V' B bn b∧Heaped b∧((p=0∧b.Perm (x::a))∨(p≠0∧b=a))
set_option maxHeartbeats 2000000 in
theorem pready11_any (V:World) (vl vn:Value) (m1 m2 m3 nb:Nat) (c:Cnt) (x:Int) (p:Int × Int) (B bn bw:Nat) (a:List Int) (hbx:SBox V bw tW (webC vl vn m1 m2 m3)) (hM:CMap V m1 nb c) (hc:c x=some p) (hx:I64 x) (hS:HpS V B bn a) (hH:Heaped a) (hn:a.length < 17592186044415) :
 Calls Tryz.prog 204 #[.int .i64 x,.pointer (some ⟨bw,0,none⟩),.pointer (some ⟨bn,0,none⟩)] V fun e V'=>e=.returned (.tuple #[])∧RdRes B bn a x p.1 V'∧Fr B bn V V':=by
 have hv:((c x).map cntV).getD (.agg #[.int .i64 0,.int .i64 0])=.agg #[.int .i64 p.1,.int .i64 p.2]:=by rw [hc];rfl
 have c2:=hbx.cell 2 _ rfl
 have hfl:∀ (a b:Int) V,(Instr.field tC (.agg #[.int .i64 a,.int .i64 b]) 0).run Tryz.prog V=.ok (.int .i64 a) V:=fun a b V=>by kernel_rfl
 obtain ⟨p1,p2⟩:=p
 simp only at hv ⊢
 by_cases h0:p1=0
 ·subst h0
  have CA:=padd11_any V B bn a x hx hS hH hn
  clear hS hbx hc
  unfold CMap at hM
  go_enter Tryz.func204,Tryz.ntmps204
  go_wp2_with (at_lookup;refine wpl_look _ rfl _ _ tML rfl tC Tryz.underlying260 (zeroC _) m1 nb _ rfl hM x hx rfl _ hv ?_)
  refine CA.mono ?_
  rintro e w1 ⟨rfl,⟨b,q1,q2⟩,f1⟩
  have HE:Hid (RdRes B bn a x 0 w1):=⟨b,q1,q2.1,.inl ⟨rfl,q2.2⟩⟩
  clear q1 q2
  go_wp2_with fail
  go_end0
  exact ⟨rfl,HE.out,f1⟩
 ·have e0:(p1==0)=false:=by simp [h0]
  have HE:Hid (RdRes B bn a x p1 V):=⟨a,hS,hH,.inr ⟨h0,rfl⟩⟩
  clear hS hbx hc hH
  unfold CMap at hM
  go_enter Tryz.func204,Tryz.ntmps204
  go_wp2_with (at_lookup;refine wpl_look _ rfl _ _ tML rfl tC Tryz.underlying260 (zeroC _) m1 nb _ rfl hM x hx rfl _ hv ?_)
  go_end0
  exact ⟨rfl,HE.out,Fr.refl _ _ _⟩
structure OrS (V:World) (bw bn:Nat) (cs:Array Value) (ov:Value) (out a:List Int):Prop where
 bx:SBox V bw tW cs
 hp:HpS V (bw+1) bn a
 hh:Heaped a
 ow:V.ownsRow (bw+1) 3 1 ov out.length (iV out)
 ap:∀ g,ov.ownBlock=some g→vblk V bn≠some g
section
variable {V V':World} {bw bn:Nat} {cs:Array Value} {ov:Value} {out a b:List Int}
theorem HpS.lt {W:World} {B bn:Nat} {a:List Int} (h:HpS W B bn a):bn < W.heap.size:=by obtain ⟨_,v,hb,_⟩:=h;exact hb.lt
theorem OrS.bel (h:OrS V bw bn cs ov out a) (hb:Below V.heap.size V V'):OrS V' bw bn cs ov out a :=
 ⟨h.bx.below hb,h.hp.bel hb,h.hh,h.ow.kept (grown_below8 none hb) (by cases ov.ownBlock<;>simp),fun g hg=>by rw [vblk_same (hb.block bn h.hp.lt)];exact h.ap g hg⟩
theorem OrS.turn (h:OrS V bw bn cs ov out a) {m1:Nat} (hg:V.grownBy V' (some m1)) (hm:m1 < bw):OrS V' bw bn cs ov out a:=by
 obtain ⟨hB,v,hbx,hrow⟩:=h.hp
 refine ⟨(hg.block bw h.bx.lt (fun e=>by have:=Option.some.inj e;omega)).trans h.bx,⟨hB,v,hbx.kept hg (fun e=>by have:=Option.some.inj e;omega),hrow.kept hg (own_off hrow (by omega))⟩,h.hh,h.ow.kept hg (own_off h.ow (by omega)),fun g hgg=>?_⟩
 rw [vblk_same (hg.block bn hbx.lt (fun e=>by have:=Option.some.inj e;omega))]
 exact h.ap g hgg
theorem OrS.fr (h:OrS V bw bn cs ov out a) (hf:Fr (bw+1) bn V V') (hb:HpS V' (bw+1) bn b) (hh:Heaped b):OrS V' bw bn cs ov out b:=by
 obtain ⟨hB,v,hbx,hrow⟩:=h.hp
 have hne:ov.ownBlock≠some bn:=fun e=>block_not_row hbx (by decide) h.ow (by rw [e])
 obtain ⟨q1,q2⟩:=hf.other h.ow hne h.ap
 exact ⟨(hf.bel.block bw (by omega)).trans h.bx,hb,hh,q1,q2⟩
theorem OrS.order (h:OrS V bw bn cs ov out a) {ov':Value} {x:Int} (o:Obj) {W2:World} (hown:W2.ownsRow (bw+1) 3 1 ov' (out.length+1) (iV out++[.int .i64 x])) (hg:(V.alloc o).grownBy W2 ov.ownBlock) (hat:ov'.ownBlock=ov.ownBlock∨ov'.ownBlock=some (V.alloc o).heap.size):OrS W2 bw bn cs ov' (out++[x]) a:=by
 have hA:=h.bel ((Below.refl _ V).alloc (Nat.le_refl _) o)
 obtain ⟨hB,v,hbx,hrow⟩:=hA.hp
 have hvb:=vblk_of hbx
 have hnb:some bn≠ov.ownBlock:=block_not_row hbx (by decide) hA.ow
 have hbx2:Boxed W2 bn tR v:=(hg.block bn hbx.lt hnb).trans hbx
 have hapv:v.ownBlock=none∨v.ownBlock≠ov.ownBlock:=by
  cases hv:v.ownBlock with
  | none=>exact .inl rfl
  | some g=>exact .inr (fun e=>hA.ap g e.symm (by rw [hvb];exact hv))
 refine ⟨(hg.block bw hA.bx.lt (block_not_row hA.bx (by decide) hA.ow)).trans hA.bx,⟨hB,v,hbx2,hrow.kept hg hapv⟩,h.hh,by rw [List.length_append,iV_app];exact hown,fun g hgg e=>?_⟩
 rw [vblk_of hbx2] at e
 rcases hat with e1 | e1
 ·exact hA.ap g (by rw [← e1];exact hgg) (by rw [hvb];exact e)
 ·rw [e1] at hgg
  have:=(hrow.lt g e).2
  have:=Option.some.inj hgg
  omega
end
end Go.Proofs.YtkkenfhlgpjmjaaGreatDoor
namespace Go.Proofs.YtkkenfhlgpjmjaaGreatDoor
set_option maxRecDepth 100000
open Go.RowKit Go.Maps
set_option linter.unusedVariables false
attribute [local go_sem] ba_size
def c14:Cnt:=fun x=>if x=1 then some (0,0) else none
def one14:Int→Option Value:=fun x=>(c14 x).map cntV
theorem one14_is:updV (fun _=>none) 1 (.agg #[.int .i64 0,.int .i64 0])=one14:=by
 funext x
 unfold updV one14 c14
 by_cases h:x=1
 ·rw [if_pos h,if_pos h];rfl
 ·rw [if_neg h,if_neg h];rfl
theorem own_at14 {W:World} {B n c:Nat} {a:Option Addr} {K:List Int} (h:W.ownsRow B 3 1 (.slice a n c) n (iV K)) (k:Nat) (hk:k < n):∃ g,a=some ⟨g,0,none⟩∧W.cell? ⟨g,k,none⟩=some (.int .i64 (K.getD k 0)):=by
 rcases h.2 with ⟨e,h0⟩ | ⟨g,cp,cur,e,_⟩
 ·omega
 ·obtain ⟨rfl,rfl⟩:a=some ⟨g,0,none⟩∧c=cp:=by simpa using e
  have hl:(iV K).length=n*1:=h.1
  rw [iV_length] at hl
  refine ⟨g,rfl,?_⟩
  rw [h.cellAt k (by omega),iV_at K k (by omega)]
  simp [show k < K.length by omega]
theorem W14.below {w W W':World} {vl vn:Value} {n:Nat} {f:Int→Option Value} (h:W14 w W vl vn n f) (hb:Below W.heap.size W W'):W14 w W' vl vn n f:=h.turn (grown_below8 none hb) (fun k e=>by cases e)
theorem W14.store {w W W':World} {vl vn:Value} {n n':Nat} {f f':Int→Option Value} (h:W14 w W vl vn n f) (hg:W.grownBy W' (some (w.heap.size+1))) (hV:VMap W' (w.heap.size+1) n' f'):W14 w W' vl vn n' f':=by
 have q:∀ k,k≠w.heap.size+1→some k≠some (w.heap.size+1):=fun k hk e=>hk (Option.some.inj e)
 exact ⟨h.b.grown hg h.b.size (fun j hj=>by have:=Option.some.inj hj;omega),(hg.block _ h.r.lt (q _ (by omega))).trans h.r,hV,h.m2.kept hg (q _ (by omega)),h.m3.kept hg (q _ (by omega)),(hg.block _ h.x.lt (q _ (by omega))).trans h.x⟩
theorem comp14:Lib.compact ([1]:List Int)=[1]:=by decide
theorem sort14:(([1]:List Int).mergeSort fun x y=>decide (x≤y))=[1]:=List.mergeSort_singleton _
theorem W14.size {w W:World} {vl vn:Value} {n:Nat} {f:Int→Option Value} (h:W14 w W vl vn n f):w.heap.size+1+1+1+1 < W.heap.size:=h.x.lt
set_option maxHeartbeats 8000000 in
theorem weave14_one (v:Value) (w:World) (hO:IsInts w v [1]) (hS:Shp v):Calls Tryz.prog 203 #[v,.slice none 0 0] w fun e w'=>∃ vn,Wv14 w vn 1 one14 e w'∧w'.ownsRow (w.heap.size+1+1) 3 1 vn 1 [.int .i64 1]:=by
 have hmm:=@run_makeMap Tryz.prog
 have S0:=W14.new w (.slice none 0 0)
 have CK:=fun W hW=>pcloneI_any v [1] W (hO.below (w':=W) hW) hS (by simp)
 obtain ⟨a,cap,rfl,_⟩:=hO.some_at
 clear hO hS
 go_enter Tryz.func203,Tryz.ntmps203
 go_upto_region 2 with fail
 generalize ((((w.alloc (.cells #[.slice none 0 0,.slice none 0 0,.map none,.map none,.map none] tW)).alloc (.map #[] 0)).alloc (.map #[] 0)).alloc (.map #[] 0)).alloc (.cells (webC (.slice none 0 0) (.slice none 0 0) (w.heap.size+1) (w.heap.size+1+1) (w.heap.size+1+1+1)) tW)=W0 at S0 ⊢
 have hz0:=S0.size
 go_wp2_with fail
 refine (CK _ S0.b).mono ?_
 rintro e w1 ⟨v1,rfl,b1,own1⟩
 obtain ⟨a1,c1,rfl⟩:=own_shape11 own1
 have S1:=S0.below b1
 have ne1:=block_not_row S1.x (by decide) own1
 have own1':=owns_keep7 (j:=1) own1 (.slice a1 [1].length c1) ne1
 have S1':=S1.put (.slice a1 [1].length c1)
 have f1:=S1.x.cell 1 _ rfl
 have g1:=S1.x.frozen 1
 simp only [List.length_singleton] at own1' S1' ⊢
 clear S0 S1 own1 CK ne1
 go_upto_region 3 with fail
 generalize w1.setCell ⟨w.heap.size+1+1+1+1,1,none⟩ (.slice a1 1 c1)=W1 at S1' own1' ⊢
 clear f1 g1
 have C2:=psort11_any (L:=[1]) own1' (by simp)
 rw [sort14] at C2
 have f1:=S1'.x.cell 1 _ rfl
 go_wp2_with fail
 refine C2.mono ?_
 rintro e w2 ⟨rfl,g2,own2⟩
 have far:∀ k,(Value.slice a1 1 c1).ownBlock=some k→w.heap.size+1+1+1+1 < k:=fun k hk=>by have:=(own1'.lt k hk).1;omega
 have S2:=S1'.turn g2 far
 have C3:=pcomp11_any (L:=[1]) own2 (by simp)
 rw [comp14] at C3
 clear f1 C2 S1'
 have f1:=S2.x.cell 1 _ rfl
 go_wp2_with fail
 refine C3.mono ?_
 rintro e w3 ⟨v3,rfl,g3,hob,own3⟩
 obtain ⟨a3,c3,rfl⟩:=own_shape11 own3
 have S3:=S2.turn g3 far
 have ne3:=block_not_row S3.x (by decide) own3
 have own3':=owns_keep7 (j:=1) own3 (.slice a3 [1].length c3) ne3
 have S3':=S3.put (.slice a3 [1].length c3)
 clear f1
 have f1:=S3.x.cell 1 _ rfl
 have g1:=S3.x.frozen 1
 simp only [List.length_singleton] at own3' S3' ⊢
 clear S2 C3 own2 own3 S3 ne3 g2 g3 hob
 go_upto_region 5 with fail
 generalize w3.setCell ⟨w.heap.size+1+1+1+1,1,none⟩ (.slice a3 1 c3)=W3 at S3' own3' ⊢
 clear f1 g1
 have f1:=S3'.x.cell 1 _ rfl
 have HO3:Hid (W3.ownsRow (w.heap.size+1+1) 3 1 (.slice a3 1 c3) 1 [.int .i64 1]):=owns_low own3' (by omega)
 clear own3'
 go_wp2_with fail
 go_loopw [28] (fun i wr=>(i=.int .i64 0∧wr=W3)∨(i=.int .i64 1∧W14 w wr (.slice none 0 0) (.slice a3 1 c3) 1 one14∧Hid (wr.ownsRow (w.heap.size+1+1) 3 1 (.slice a3 1 c3) 1 [.int .i64 1]))) (fun i _=>1 - (RowKit.intOf i).toNat)
 case atStart=>exact .inl ⟨rfl,rfl⟩
 case round =>
  rcases hrel with ⟨rfl,rfl⟩ | ⟨rfl,S4,HO4⟩
  ·have hx2:=S3'.x.cell 2 _ rfl
   have hV:=S3'.m1
   obtain ⟨g,ea,cellN⟩:=own_at14 (K:=[1]) HO3.out 0 (by omega)
   subst ea
   simp only [List.getD_cons_zero] at cellN
   have hI:I64 (1:Int):=by decide
   go_wp2_with (at_mapUpdate;refine wpl_store _ rfl _ _ _ tML rfl tC Tryz.underlying260 (w.heap.size+1) 0 _ rfl hV (by omega) 1 hI rfl (.agg #[.int .i64 0,.int .i64 0]) rfl ?_;intro w5 hM5 hg5)
   rw [one14_is] at hM5
   have S5:=S3'.store hg5 hM5
   have HO5:Hid (w5.ownsRow (w.heap.size+1+1) 3 1 (.slice (some ⟨g,0,none⟩) 1 c3) 1 [.int .i64 1]):=HO3.out.kept hg5 (own_off HO3.out (by omega))
   clear hM5 hg5 hV
   go_wp2_with fail
   exact ⟨.inr ⟨rfl,S5,HO5⟩,by simp [RowKit.intOf]⟩
  ·clear S3' f1
   go_wp2_with fail
   obtain ⟨wA,hwA⟩:∃ wA,wA=wr:=⟨_,rfl⟩
   go_loopw [39] (fun i wq=>i=.int .i64 0∧wq=wr) (fun _ _=>0)
   case atStart=>exact ⟨rfl,rfl⟩
   case round =>
    obtain ⟨rfl,rfl⟩:=hrel
    have f0:=S4.x.cell 0 _ rfl
    have f1:=S4.x.cell 1 _ rfl
    have f2:=S4.x.cell 2 _ rfl
    have f3:=S4.x.cell 3 _ rfl
    have f4:=S4.x.cell 4 _ rfl
    have r0:=S4.r.cell 0 _ rfl
    have r1:=S4.r.cell 1 _ rfl
    have r2:=S4.r.cell 2 _ rfl
    have r3:=S4.r.cell 3 _ rfl
    have r4:=S4.r.cell 4 _ rfl
    have q0:=S4.r.frozen 0
    have q1:=S4.r.frozen 1
    have q2:=S4.r.frozen 2
    have q3:=S4.r.frozen 3
    have q4:=S4.r.frozen 4
    have ne:some w.heap.size≠(Value.slice a3 1 c3).ownBlock:=block_not_row S4.r (by decide) HO4.out
    go_wp2_with fail
    exact bodyPost_ret (v:=webV (.slice none 0 0) (.slice a3 1 c3) (w.heap.size+1) (w.heap.size+1+1) (w.heap.size+1+1+1)) (results_row11 Tryz.results203 _ _ w.heap.size tW _ (0,0) _ rfl S4.res Tryz.underlying263 rfl size_web14) rfl ⟨_,S4.end,owns_keep7 (owns_keep7 (owns_keep7 (owns_keep7 (owns_keep7 HO4.out _ ne) _ ne) _ ne) _ ne) _ ne⟩
set_option maxHeartbeats 4000000 in
theorem take14_one (W:World) (a:Option Addr) (c m1 m2 m3:Nat) (fv:Value) (h1:VMap W m1 1 one14) (h2:VMap W m2 0 (fun _=>none)) (h3:VMap W m3 0 (fun _=>none)) (n2:m2≠m1) (n3:m3≠m1) :
 Calls Tryz.prog 208 #[webV (.slice none 0 0) (.slice a 1 c) m1 m2 m3,.int .i64 1,fv] W fun e W'=>e=.returned (.tuple #[])∧VMap W' m1 1 (delV one14 1)∧W.grownBy W' (some m1):=by
 have hg:=World.grownBy_alloc W (.cells (webC (.slice none 0 0) (.slice a 1 c) m1 m2 m3) tW) none
 have X:=SBox.new W tW (webC (.slice none 0 0) (.slice a 1 c) m1 m2 m3)
 have lt1:=h1.lt
 have k1:=h1.kept hg (by simp)
 have k2:=h2.kept hg (by simp)
 have k3:=h3.kept hg (by simp)
 have HG:=Lib.hid (World.grownBy_alloc W (.cells (webC (.slice none 0 0) (.slice a 1 c) m1 m2 m3) tW) (some m1))
 have c2:=X.cell 2 _ rfl
 have hI:I64 (1:Int):=by decide
 have hv:((fun _=>none:Int→Option Value) 1).getD (.slice none 0 0)=.slice none 0 0:=rfl
 clear h1 h2 h3 hg
 go_enter Tryz.func208,Tryz.ntmps208
 go_upto_region 1 with fail
 generalize W.alloc (.cells (webC (.slice none 0 0) (.slice a 1 c) m1 m2 m3) tW)=W1 at X k1 k2 k3 HG c2 ⊢
 go_wp2_with (first
  | (at_delete;refine wpl_delete _ rfl _ _ tML rfl tC Tryz.underlying260 m1 1 _ rfl k1 1 hI rfl ?_;intro w2 hM2 hg2
     have X2:SBox w2 W.heap.size tW (webC (.slice none 0 0) (.slice a 1 c) m1 m2 m3):=(hg2.block _ X.lt (fun e=>by have:=Option.some.inj e;omega)).trans X
     have e2:=k2.kept hg2 (fun e=>n2 (Option.some.inj e))
     have e3:=k3.kept hg2 (fun e=>n3 (Option.some.inj e))
     have HM:=Lib.hid hM2
     have HG2:=Lib.hid (HG.out.trans hg2)
     clear c2 X k1 k2 k3 hM2 hg2
     have c3:=X2.cell 3 _ rfl
     have c4:=X2.cell 4 _ rfl)
  | (at_lookup;refine wpl_look _ rfl _ _ tMI rfl 23 Tryz.underlying261 (zeroS _) m2 0 _ rfl e2 1 hI rfl (.slice none 0 0) hv ?_))
 go_loopw [20] (fun i wr=>i=.int .i64 0∧wr=w2) (fun _ _=>0)
 case atStart=>exact ⟨rfl,rfl⟩
 case round =>
  obtain ⟨rfl,rfl⟩:=hrel
  go_wp2_with (at_lookup;refine wpl_look _ rfl _ _ tMI rfl 23 Tryz.underlying261 (zeroS _) m3 0 _ rfl e3 1 hI rfl (.slice none 0 0) hv ?_)
  obtain ⟨wA,hwA⟩:∃ wA,wA=wr:=⟨_,rfl⟩
  go_loopw [46] (fun i wq=>i=.int .i64 0∧wq=wr) (fun _ _=>0)
  case atStart=>exact ⟨rfl,rfl⟩
  case round =>
   obtain ⟨rfl,rfl⟩:=hrel
   go_wp2_with fail
   go_end0
   exact ⟨rfl,HM.out,HG2.out⟩
structure O14 (w W:World) (bw m1 m2 m3:Nat) (cs:Array Value) (ov:Value) (out a:List Int) (f:Int→Option Value):Prop where
 o:OrS W bw (bw+1) cs ov out a
 m1:VMap W m1 1 f
 m2:VMap W m2 0 (fun _=>none)
 m3:VMap W m3 0 (fun _=>none)
 b:Below w.heap.size w W
theorem O14.fr {w W W':World} {bw m1 m2 m3:Nat} {cs:Array Value} {ov:Value} {out a b:List Int} {f:Int→Option Value} (h:O14 w W bw m1 m2 m3 cs ov out a f) (hw:w.heap.size≤bw) (l1:m1 < bw) (l2:m2 < bw) (l3:m3 < bw) (hf:Fr (bw+1) (bw+1) W W') (hb:HpS W' (bw+1) (bw+1) b) (hh:Heaped b):O14 w W' bw m1 m2 m3 cs ov out b f :=
 ⟨h.o.fr hf hb hh,h.m1.bel hf.bel (by omega),h.m2.bel hf.bel (by omega),h.m3.bel hf.bel (by omega),h.b.trans (hf.bel.mono (by omega))⟩
theorem delV14 (t:Int):delV one14 1 t=none:=by
 unfold delV one14 c14
 by_cases h:t=1
 ·rw [if_pos h]
 ·rw [if_neg h,if_neg h];rfl
set_option maxHeartbeats 8000000 in
theorem order14_one (v:Value) (w:World) (hO:IsInts w v [1]) (hS:Shp v):Calls Tryz.prog 141 #[v,.slice none 0 0] w fun e w'=>∃ vo,e=.returned (.tuple #[vo,.bool true])∧Below w.heap.size w w'∧w'.ownsRow w.heap.size 3 1 vo 1 [.int .i64 1]:=by
 obtain ⟨i0,hi,hz0,hz1,hz2⟩:=info_parts int_info
 have CW:=weave14_one v w hO hS
 obtain ⟨an,cn,rfl,_⟩:=hO.some_at
 have hI:I64 (1:Int):=by decide
 clear hO hS
 go_enter Tryz.func141,Tryz.ntmps141
 go_wp2_with fail
 refine CW.mono ?_
 rintro e Wc ⟨vN,⟨rfl,bC,M1,M2,M3⟩,oN⟩
 obtain ⟨aN,cN,rfl⟩:=own_shape11 oN
 have l1:=M1.lt
 have l2:=M2.lt
 have l3:=M3.lt
 have hbC:=bC.size
 obtain ⟨m1,e1⟩:∃ m,w.heap.size+1=m:=⟨_,rfl⟩
 obtain ⟨bw,hbw⟩:∃ bw,Wc.heap.size=bw:=⟨_,rfl⟩
 have hm1:Hid (w.heap.size+1=m1):=e1
 obtain ⟨cs,hcs⟩:∃ cs,webC (.slice none 0 0) (.slice aN 1 cN) m1 (m1+1) (m1+1+1)=cs:=⟨_,rfl⟩
 simp only [e1] at M1 M2 M3 l1 l2 l3 oN ⊢
 have S2:O14 w ((Wc.alloc (.cells (webC (.slice none 0 0) (.slice aN 1 cN) m1 (m1+1) (m1+1+1)) tW)).alloc (.cells #[.slice none 0 0] tR)) bw m1 (m1+1) (m1+1+1) (webC (.slice none 0 0) (.slice aN 1 cN) m1 (m1+1) (m1+1+1)) (.slice none 0 0) [] [] one14:=by
  have hg:=(World.grownBy_alloc Wc (.cells (webC (.slice none 0 0) (.slice aN 1 cN) m1 (m1+1) (m1+1+1)) tW) none).trans (World.grownBy_alloc _ (.cells #[.slice none 0 0] tR) none)
  refine ⟨?_,M1.kept hg (by simp),M2.kept hg (by simp),M3.kept hg (by simp),bC.grown hg hbC (fun j hj=>by cases hj)⟩
  rw [← hbw]
  refine ⟨(SBox.new Wc tW _).alloc _,⟨Nat.le_refl _,.slice none 0 0,?_,World.ownsRow_nil _ _ _ _⟩,heaped_nil,World.ownsRow_nil _ _ _ _,fun g hg=>by simp [Value.ownBlock] at hg⟩
  have:=Boxed.new (Wc.alloc (.cells (webC (.slice none 0 0) (.slice aN 1 cN) m1 (m1+1) (m1+1+1)) tW)) tR (.slice none 0 0)
  simpa using this
 have oN2:Hid (((Wc.alloc (.cells (webC (.slice none 0 0) (.slice aN 1 cN) m1 (m1+1) (m1+1+1)) tW)).alloc (.cells #[.slice none 0 0] tR)).ownsRow (m1+1) 3 1 (.slice aN 1 cN) 1 [.int .i64 1]):=(oN.alloc _).alloc _
 clear hcs cs
 go_upto_region 3 with fail
 rw [hbw] at l1 l2 l3 hbC
 generalize (Wc.alloc (.cells (webC (.slice none 0 0) (.slice aN 1 cN) m1 (m1+1) (m1+1+1)) tW)).alloc (.cells #[.slice none 0 0] tR)=W2 at S2 oN2 ⊢
 have x1:=S2.o.bx.cell 1 _ rfl
 clear M1 M2 M3 oN e1 hbw CW
 go_wp2_with fail
 go_loopw [20] (fun i wr=>(i=.int .i64 0∧wr=W2)∨(i=.int .i64 1∧O14 w wr bw m1 (m1+1) (m1+1+1) (webC (.slice none 0 0) (.slice aN 1 cN) m1 (m1+1) (m1+1+1)) (.slice none 0 0) [] [1] one14)) (fun i _=>1 - (RowKit.intOf i).toNat)
 case atStart=>exact .inl ⟨rfl,rfl⟩
 case round =>
  rcases hrel with ⟨rfl,rfl⟩ | ⟨rfl,S3⟩
  ·obtain ⟨g,ea,cellN⟩:=own_at14 (K:=[1]) oN2.out 0 (by omega)
   subst ea
   simp only [List.getD_cons_zero] at cellN
   have CR:=pready11_any wr (.slice none 0 0) (.slice (some ⟨g,0,none⟩) 1 cN) m1 (m1+1) (m1+1+1) 1 c14 1 (0,0) (bw+1) (bw+1) bw [] S2.o.bx S2.m1 rfl hI S2.o.hp S2.o.hh (by simp)
   have HS2:=Lib.hid S2
   clear S2
   go_wp2_with fail
   refine CR.mono ?_
   rintro e w4 ⟨rfl,⟨b,r1,r2,r3⟩,fr⟩
   have hb:b=[1]:=by
    rcases r3 with ⟨_,r3⟩ | ⟨r3,_⟩
    ·exact List.perm_singleton.1 r3
    ·exact absurd rfl r3
   subst hb
   have S4:=HS2.out.fr (by omega) (by omega) (by omega) (by omega) fr r1 r2
   clear r1 r2 r3 fr CR
   go_wp2_with fail
   exact ⟨.inr ⟨rfl,S4⟩,by simp [RowKit.intOf]⟩
  ·clear S2 x1
   go_wp2_with fail
   obtain ⟨wB,hwB⟩:∃ wB,wB=wr:=⟨_,rfl⟩
   have S3':O14 w wB bw m1 (m1+1) (m1+1+1) (webC (.slice none 0 0) (.slice aN 1 cN) m1 (m1+1) (m1+1+1)) (.slice none 0 0) [] [1] one14:=by rw [hwB];exact S3
   subst hwB
   clear S3
   go_loopw [11] (fun ov wr=>(ov=.slice none 0 0∧wr=wB)∨∃ ad c,ov=.slice ad 1 c∧O14 w wr bw m1 (m1+1) (m1+1+1) (webC (.slice none 0 0) (.slice aN 1 cN) m1 (m1+1) (m1+1+1)) ov [1] [] (delV one14 1)) (fun ov _=>1 - slLen ov)
   case atStart=>exact .inl ⟨rfl,rfl⟩
   case round =>
    rcases hrel with ⟨rfl,rfl⟩ | ⟨ad,c,rfl,S4⟩
    ·obtain ⟨adr,cc,hbx⟩:=S3'.o.hp.cell0
     have p0:=hbx.cell
     have CL:=plen11_any adr 1 cc wr
     have CP:=pleast11_any wr (bw+1) (bw+1) [1] S3'.o.hp S3'.o.hh (by simp) (by simp)
     simp only [List.length_singleton] at p0
     clear hbx
     go_wp2_with fail
     refine CL.mono ?_
     rintro e w5 ⟨rfl,rfl⟩
     go_wp2_with fail
     refine CP.mono ?_
     rintro e w6 ⟨⟨x,b,rfl,hb2,hpop⟩,fr2⟩
     obtain ⟨rfl,rfl⟩:x=1∧b=[]:=by
      have:=List.singleton_perm.1 hpop.2.1
      simpa [eq_comm] using this
     have S6:=S3'.fr (by omega) (by omega) (by omega) (by omega) fr2 hb2 hpop.1
     have how:=S6.o.ow
     have hsz:bw+1≤w6.heap.size:=by have:=S6.o.hp.lt;omega
     clear CP CL hb2 hpop fr2 S3' p0
     go_wp2_with (at_builtin;refine wpList_append_own_at _ rfl _ _ 23 rfl (bw+1) 3 i0 (.int .i64 0) 1 8 Tryz.underlying23 hi hz0 hz1 hz2 rfl (by decide) (.slice none 0 0) _ _ rfl (how.alloc _) ⟨w6.heap.size,0,none⟩ 1 1 [.int .i64 1] rfl rfl ?a1 ?a2 ?a3 ?a4 ?a5 ?_)
     case a1=>intro j u hj;match j,hj with
      | 0,hj=>simp at hj;subst hj;simp [Addr.add]
     case a2=>intro u hu;simp at hu;subst hu;rfl
     case a3=>simp [maxLen]
     case a4=>simp
     case a5=>simp;omega
     intro r3 w7 hown3 hg3 _ hat3
     obtain ⟨a3,c3,rfl⟩:=own_shape11 hown3
     have hO7:=S6.o.order _ hown3 hg3 (by simpa using hat3)
     have B7:Below (bw+1) w6 w7:=((Below.refl (bw+1) w6).alloc hsz _).grown hg3 (by simp;omega) (fun j hj=>(how.lt j hj).1)
     have S7:O14 w w7 bw m1 (m1+1) (m1+1+1) (webC (.slice none 0 0) (.slice aN 1 cN) m1 (m1+1) (m1+1+1)) (.slice a3 1 c3) [1] [] one14:=⟨hO7,S6.m1.bel B7 (by omega),S6.m2.bel B7 (by omega),S6.m3.bel B7 (by omega),S6.b.trans (B7.mono (by omega))⟩
     have y0:=S7.o.bx.cell 0 _ rfl
     have y1:=S7.o.bx.cell 1 _ rfl
     have y2:=S7.o.bx.cell 2 _ rfl
     have y3:=S7.o.bx.cell 3 _ rfl
     have y4:=S7.o.bx.cell 4 _ rfl
     have CT:=fun fv=>take14_one w7 aN cN m1 (m1+1) (m1+1+1) fv S7.m1 S7.m2 S7.m3 (by omega) (by omega)
     clear hown3 hg3 hat3 hO7 B7 S6 how
     go_wp2_with fail
     refine (CT _).mono ?_
     rintro e w8 ⟨rfl,M8,g8⟩
     have S8:O14 w w8 bw m1 (m1+1) (m1+1+1) (webC (.slice none 0 0) (.slice aN 1 cN) m1 (m1+1) (m1+1+1)) (.slice a3 1 c3) [1] [] (delV one14 1):=⟨S7.o.turn g8 (by omega),M8,S7.m2.kept g8 (fun e=>by have:=Option.some.inj e;omega),S7.m3.kept g8 (fun e=>by have:=Option.some.inj e;omega),S7.b.grown g8 S7.b.size (fun j hj=>by have:=Option.some.inj hj;have:=hm1.out;omega)⟩
     clear y0 y1 y2 y3 y4 M8 g8 S7 CT
     go_wp2_with fail
     exact ⟨.inr ⟨a3,c3,rfl,S8⟩,by simp [slLen]⟩
    ·obtain ⟨adr,cc,hbx⟩:=S4.o.hp.cell0
     have p0:=hbx.cell
     have CL:=plen11_any adr 0 cc wr
     simp only [List.length_nil] at p0
     have hCm:=S4.m1
     have x2:=S4.o.bx.cell 2 _ rfl
     have hkm:∀ t,t∈([]:List Int)↔(delV one14 1 t).isSome=true:=fun t=>by rw [delV14];simp
     have HOw:=Lib.hid S4.o.ow
     have HB:=Lib.hid S4.b
     clear hbx S4 S3'
     go_wp2_with fail
     refine CL.mono ?_
     rintro e w5 ⟨rfl,rfl⟩
     go_wp2_with (at_len;refine wpl_len _ rfl _ tML rfl tC Tryz.underlying260 m1 _ _ rfl hCm [] List.nodup_nil hkm ?_)
     go_ret2
     exact ⟨_,rfl,HB.out,owns_low HOw.out (by omega)⟩
end Go.Proofs.YtkkenfhlgpjmjaaGreatDoor
namespace Go.Proofs.YtkkenfhlgpjmjaaGreatDoor
set_option maxRecDepth 100000
open Go.RowKit Go.Shelf
set_option linter.unusedVariables false
attribute [local go_sem] ba_size
theorem ev_upto (h:List Ev) (i:Nat) (hi:i≤h.length):∀ j,j < i→ev (h.take i) j=ev h j:=fun j hj=>ev_take h i j hj hi
theorem find_take (h:List Ev) (t:Int) (i:Nat) (hi:i≤h.length):(findP (h.take i) t).2=(fstL h t i).isSome∧((fstL h t i).isSome=true→((findP (h.take i) t).1.2.2.1 < i↔endL h t i≠none)):=by
 have hl:(h.take i).length=i:=by rw [List.length_take];omega
 have e1:fstL (h.take i) t i=fstL h t i:=fi_congr fun j hj=>by unfold ofTxn;rw [ev_upto h i hi j hj]
 have e2:endL (h.take i) t i=endL h t i:=fi_congr fun j hj=>by unfold isEnd;rw [ev_upto h i hi j hj]
 unfold findP findL
 rw [hl,e1,e2]
 cases hf:fstL h t i with
 | none=>exact ⟨rfl,fun hh=>by cases hh⟩
 | some q =>
   cases he:endL h t i with
   | none=>exact ⟨rfl,fun _=>⟨fun hh=>by simp at hh,fun hh=>absurd rfl hh⟩⟩
   | some e=>exact ⟨rfl,fun _=>⟨fun _=>by simp,fun _=>((fi_some _ _ _).1 he).1⟩⟩
theorem written_take (h:List Ev) (v:List UInt8) (i:Nat) (hi:i≤h.length):fi (sameVal (h.take i) v) (h.take i).length=fi (sameVal h v) i:=by
 have hl:(h.take i).length=i:=by rw [List.length_take];omega
 rw [hl]
 exact fi_congr fun j hj=>by unfold sameVal;rw [ev_upto h i hi j hj]
section
variable {h:List Ev} {i:Nat} {y0 y1:Int} {y2 y3:List UInt8}
theorem fs_may (he:ev h i=(y0,y1,y2,y3)) (hm:¬ mayE (y0,y1,y2,y3)):formStep h i=1:=by unfold formStep;rw [he,if_pos hm]
theorem fs_there (he:ev h i=(y0,y1,y2,y3)) (hm:mayE (y0,y1,y2,y3)) (h1:y0=1) (hf:(fstL h y1 i).isSome=true):formStep h i=8:=by
 unfold formStep;rw [he,if_neg (fun hh=>hh hm),if_pos h1,if_neg (fun e=>by rw [show fstL h y1 i=none from e] at hf;cases hf)]
theorem fs_begin (he:ev h i=(y0,y1,y2,y3)) (hm:mayE (y0,y1,y2,y3)) (h1:y0=1) (hf:(fstL h y1 i).isSome=false):formStep h i=0:=by
 unfold formStep;rw [he,if_neg (fun hh=>hh hm),if_pos h1,if_pos (by cases hq:fstL h y1 i with
  | none=>rfl
  | some q=>rw [hq] at hf;cases hf)]
theorem fs_none (he:ev h i=(y0,y1,y2,y3)) (hm:mayE (y0,y1,y2,y3)) (h1:¬ y0=1) (hf:(fstL h y1 i).isSome=false):formStep h i=7:=by
 unfold formStep;rw [he,if_neg (fun hh=>hh hm),if_neg h1,if_pos (by cases hq:fstL h y1 i with
  | none=>rfl
  | some q=>rw [hq] at hf;cases hf)]
theorem fs_state (he:ev h i=(y0,y1,y2,y3)) (hm:mayE (y0,y1,y2,y3)) (h1:¬ y0=1) (hf:(fstL h y1 i).isSome=true) (hn:endL h y1 i≠none):formStep h i=9:=by
 unfold formStep;rw [he,if_neg (fun hh=>hh hm),if_neg h1,if_neg (fun e=>by rw [show fstL h y1 i=none from e] at hf;cases hf),if_pos hn]
theorem fs_rest (he:ev h i=(y0,y1,y2,y3)) (hm:mayE (y0,y1,y2,y3)) (h1:¬ y0=1) (hf:(fstL h y1 i).isSome=true) (hn:¬ endL h y1 i≠none):formStep h i=if y0=3∧fi (sameVal h y3) i≠none then 8 else if y0=2∧y3≠[]∧writerL h y2 y3=none then 7 else 0:=by
 unfold formStep;rw [he,if_neg (fun hh=>hh hm),if_neg h1,if_neg (fun e=>by rw [show fstL h y1 i=none from e] at hf;cases hf),if_neg hn]
end
set_option maxHeartbeats 8000000 in
theorem pfault8_any (h:List Ev) (v:Value) (w:World) (hT:IsEvs w v h) (i:Nat) (hi:i < h.length) (hn:h.length≤256) :
 Calls Tryz.prog 136 #[v,.int .i64 (i:Int)] w fun e w'=>e=.returned (.int .i64 (formStep h i:Int))∧Below w.heap.size w w':=by
 have hT0:=hT
 obtain ⟨a,cap,rfl,h1,h2,h3,HC⟩:=hT.some_at
 obtain ⟨bb,off,rfl,hblt,hcell⟩:=HC.out i hi
 obtain ⟨p0,p1,p2,p3⟩:=IsEvs.at hi hcell
 have HX:Hid (ev h i=h[i]):=ev_get h i hi
 obtain ⟨⟨y0,y1,y2,y3⟩,hx⟩:∃ x,h[i]=x:=⟨_,rfl⟩
 rw [hx] at p0 p1 p2 p3 HX
 simp only at p0 p1 p2 p3
 have HA:Hid (IsEvs w (.slice (some ⟨bb,off,none⟩) i cap) (h.take i)):=hT0.take i (by omega)
 have HH:Hid (IsEvs w (.slice (some ⟨bb,off,none⟩) h.length cap) h):=hT0
 clear HC hT hT0 hcell hx
 have CF:=fun V hV=>pfind8_any (h.take i) (.slice (some ⟨bb,off,none⟩) i cap) V y1 (HA.out.below (w':=V) hV)
 have CW:=fun V hV=>pwritten8_any (h.take i) (.slice (some ⟨bb,off,none⟩) i cap) V (HA.out.below (w':=V) hV) y3
 have CR:=fun V hV=>pwriter8_any h (.slice (some ⟨bb,off,none⟩) h.length cap) V (HH.out.below (w':=V) hV) y2 y3
 have CM:=fun V=>pmay_any y0 y1 y2 y3 V
 rw [written_take h y3 i (by omega)] at CW
 have HFT:=Lib.hid (find_take h y1 i (by omega))
 obtain ⟨⟨⟨f0,f1,f2,f3⟩,th⟩,hP⟩:∃ P,findP (h.take i) y1=P:=⟨_,rfl⟩
 rw [hP] at CF HFT
 clear hP HA HH
 simp only at CF
 obtain ⟨bm,hbm⟩:∃ bm,decide (mayE (y0,y1,y2,y3))=bm:=⟨_,rfl⟩
 have HM:Hid (decide (mayE (y0,y1,y2,y3))=bm):=hbm
 rw [hbm] at CM
 obtain ⟨bw,hbw⟩:∃ bw,(fi (sameVal h y3) i).isSome=bw:=⟨_,rfl⟩
 have HBW:Hid ((fi (sameVal h y3) i).isSome=bw):=hbw
 rw [hbw] at CW
 obtain ⟨r,hr⟩:∃ r,writerL h y2 y3=r:=⟨_,rfl⟩
 have HR:Hid (writerL h y2 y3=r):=hr
 rw [hr] at CR
 clear hbm hbw hr
 have ji:(i:Int) < (h.length:Int):=by omega
 have jc:(i:Int)≤(cap:Int):=by omega
 have HN:Hid (i < h.length∧h.length≤256):=⟨hi,hn⟩
 clear hi hn
 go_enter Tryz.func136,Tryz.ntmps136
 go_wp2_with fail
 refine wp_region_any (by kernel_rfl) ?_
 change wpAny _ _ _ _ _ _ _ (World.drew _)
 refine any_of_C (C:=fun V=>V.cell? ⟨bb,off+i*4,none⟩=some (.int .i64 y0)∧V.cell? ⟨bb,off+i*4+1,none⟩=some (.int .i64 y1)∧V.cell? ⟨bb,off+i*4+2,none⟩=some (.string ⟨y2.toArray⟩)∧V.cell? ⟨bb,off+i*4+3,none⟩=some (.string ⟨y3.toArray⟩)) 9 _ _ _ _ ?_
 refine takeC (i:=0) (v:=.slice (some ⟨bb,off,none⟩) h.length cap) rfl (by kernel_rfl) (by kernel_rfl) (by kernel_rfl) (by kernel_rfl) (by kernel_rfl) (fun _ _ _ h=>h) (Or.inl ⟨by kernel_rfl,fun V hV=>by obtain ⟨r0,r1,r2,r3⟩:=hV;go_simp⟩) ?_
 refine takeC (i:=1) (v:=.int .i64 (i:Int)) rfl (by kernel_rfl) (by kernel_rfl) (by kernel_rfl) (by kernel_rfl) (by kernel_rfl) (fun _ _ _ h=>h) (Or.inl ⟨by kernel_rfl,fun V hV=>by obtain ⟨r0,r1,r2,r3⟩:=hV;go_simp⟩) ?_
 refine takeC (i:=2) (v:=.pointer (some ⟨bb,off+i*4,none⟩)) rfl (by kernel_rfl) (by kernel_rfl) (by kernel_rfl) (by kernel_rfl) (by kernel_rfl) (fun _ _ _ h=>h) (Or.inl ⟨by kernel_rfl,fun V hV=>by obtain ⟨r0,r1,r2,r3⟩:=hV;go_simp⟩) ?_
 refine takeC (i:=3) (v:=.agg #[.int .i64 y0,.int .i64 y1,.string ⟨y2.toArray⟩,.string ⟨y3.toArray⟩]) rfl (by kernel_rfl) (by kernel_rfl) (by kernel_rfl) (by kernel_rfl) (by kernel_rfl) (fun _ _ _ h=>h) (Or.inl ⟨by kernel_rfl,fun V hV=>by obtain ⟨r0,r1,r2,r3⟩:=hV;go_simp⟩) ?_
 refine takeC (i:=4) (v:=.slice (some ⟨bb,off,none⟩) h.length cap) rfl (by kernel_rfl) (by kernel_rfl) (by kernel_rfl) (by kernel_rfl) (by kernel_rfl) (fun _ _ _ h=>h) (Or.inl ⟨by kernel_rfl,fun V hV=>by obtain ⟨r0,r1,r2,r3⟩:=hV;go_simp⟩) ?_
 refine takeC (i:=5) (v:=.int .i64 (i:Int)) rfl (by kernel_rfl) (by kernel_rfl) (by kernel_rfl) (by kernel_rfl) (by kernel_rfl) (fun _ _ _ h=>h) (Or.inl ⟨by kernel_rfl,fun V hV=>by obtain ⟨r0,r1,r2,r3⟩:=hV;go_simp⟩) ?_
 refine takeC (i:=6) (v:=.slice (some ⟨bb,off,none⟩) i cap) rfl (by kernel_rfl) (by kernel_rfl) (by kernel_rfl) (by kernel_rfl) (by kernel_rfl) (fun _ _ _ h=>h) (Or.inl ⟨by kernel_rfl,fun V hV=>by obtain ⟨r0,r1,r2,r3⟩:=hV;go_simp⟩) ?_
 refine consC (i:=7) (by kernel_rfl) (by kernel_rfl) ⟨p0,p1,p2,p3⟩ rfl (fun K hK=>?_)
 go_wp2_with fail
 refine consC (i:=8) (by kernel_rfl) (by kernel_rfl) ⟨cell_al _ p0,cell_al _ p1,cell_al _ p2,cell_al _ p3⟩ rfl (fun K hK=>?_)
 go_wp2_with fail
 refine lastC (by kernel_rfl) (by kernel_rfl) ⟨cell_al _ p0,cell_al _ p1,cell_al _ p2,cell_al _ p3⟩ (of_decide_eq_true (by kernel_rfl)) ?_
 refine any_seqI [9] [_] _ _ _ rfl (by kernel_rfl) ?_
 have B0:Below w.heap.size w (w.alloc (.cells #[.int .i64 y0,.int .i64 y1,.string ⟨y2.toArray⟩,.string ⟨y3.toArray⟩] 64)).drew:=((Below.refl _ w).alloc (Nat.le_refl _) _).drew
 have X0:SBox (w.alloc (.cells #[.int .i64 y0,.int .i64 y1,.string ⟨y2.toArray⟩,.string ⟨y3.toArray⟩] 64)).drew w.heap.size 64 #[.int .i64 y0,.int .i64 y1,.string ⟨y2.toArray⟩,.string ⟨y3.toArray⟩]:=SBox.new w _ _
 obtain ⟨V0,hV0⟩:∃ V0,(w.alloc (.cells #[.int .i64 y0,.int .i64 y1,.string ⟨y2.toArray⟩,.string ⟨y3.toArray⟩] 64)).drew=V0:=⟨_,rfl⟩
 rw [hV0] at B0 X0
 have x1:=X0.cell 1 _ rfl
 go_wp2_with fail
 clear hV0
 refine (CF V0 B0).mono ?_
 rintro e V1 ⟨rfl,b1⟩
 have s0:=B0.size
 have B1:Below w.heap.size w V1:=B0.trans (b1.mono s0)
 have X1:=(X0.below b1).alloc (.cells #[.int .i64 f0,.int .i64 (f1:Int),.int .i64 (f2:Int),.bool f3] 73)
 have Lb:=SBox.new V1 73 #[.int .i64 f0,.int .i64 (f1:Int),.int .i64 (f2:Int),.bool f3]
 have z0:=X1.cell 0 _ rfl
 have z1:=X1.cell 1 _ rfl
 have z2:=X1.cell 2 _ rfl
 have z3:=X1.cell 3 _ rfl
 clear x1 X0 b1
 go_wp2_with fail
 refine (CM _).mono ?_
 rintro e V2 ⟨rfl,b2⟩
 have s1:=B1.size
 have B2:Below w.heap.size w V2:=(B1.alloc s1 (.cells #[.int .i64 f0,.int .i64 (f1:Int),.int .i64 (f2:Int),.bool f3] 73)).trans (b2.mono (by simp;omega))
 have X2:=X1.below b2
 have L2:=Lb.below b2
 have u0:=X2.cell 0 _ rfl
 have u2:=X2.cell 2 _ rfl
 have u3:=X2.cell 3 _ rfl
 have l2:=L2.cell 2 _ rfl
 have HX2:=Lib.hid X2
 have HB2:=Lib.hid B2
 clear z0 z1 z2 z3 X1 Lb b2 X2 L2
 cases bm with
 | false =>
   have HE:Hid (formStep h i=1):=fs_may HX.out (of_decide_eq_false HM.out)
   go_wp2_with fail
   go_ret
   exact ⟨by rw [HE.out];rfl,HB2.out⟩
 | true =>
   by_cases k1:y0=1
   ·have e1:(y0==1)=true:=by rw [k1];rfl
    have e2:(y0==2)=false:=by rw [k1];rfl
    have e3:(y0==3)=false:=by rw [k1];rfl
    cases th with
    | true =>
      have HE:Hid (formStep h i=8):=fs_there HX.out (of_decide_eq_true HM.out) k1 HFT.out.1.symm
      clear k1
      go_wp2_with fail
      go_ret
      exact ⟨by rw [HE.out];rfl,HB2.out⟩
    | false =>
      have HE:Hid (formStep h i=0):=fs_begin HX.out (of_decide_eq_true HM.out) k1 HFT.out.1.symm
      clear k1
      go_wp2_with fail
      go_ret
      exact ⟨by rw [HE.out];rfl,HB2.out⟩
   ·have e1:(y0==1)=false:=beq_eq_false_iff_ne.2 k1
    cases th with
    | false =>
      have HE:Hid (formStep h i=7):=fs_none HX.out (of_decide_eq_true HM.out) k1 HFT.out.1.symm
      clear k1
      go_wp2_with fail
      go_ret
      exact ⟨by rw [HE.out];rfl,HB2.out⟩
    | true =>
      have HFI:=Lib.hid (HFT.out.2 HFT.out.1.symm)
      by_cases kt:f2 < i
      ·have jt:(f2:Int) < (i:Int):=by omega
       have HE:Hid (formStep h i=9):=fs_state HX.out (of_decide_eq_true HM.out) k1 HFT.out.1.symm (HFI.out.1 kt)
       clear k1
       go_wp2_with fail
       go_ret
       exact ⟨by rw [HE.out];rfl,HB2.out⟩
      ·have jt:¬ (f2:Int) < (i:Int):=by omega
       have HE0:=Lib.hid (fs_rest HX.out (of_decide_eq_true HM.out) k1 HFT.out.1.symm (fun hh=>kt (HFI.out.2 hh)))
       by_cases k3:y0=3
       ·have e2:(y0==2)=false:=by rw [k3];rfl
        have e3:(y0==3)=true:=by rw [k3];rfl
        have K3:Hid (y0=3):=k3
        clear k1 k3
        go_wp2_with fail
        refine (CW _ HB2.out).mono ?_
        rintro e V3 ⟨rfl,b3⟩
        have s2:=HB2.out.size
        have B3:=HB2.out.trans (b3.mono s2)
        have X3:=HX2.out.below b3
        have t0:=X3.cell 0 _ rfl
        cases bw with
        | true =>
          have HE:Hid (formStep h i=8):=by show _=_;rw [HE0.out,if_pos ⟨K3.out,fun e=>by have:=HBW.out;rw [e] at this;cases this⟩]
          go_wp2_with fail
          go_ret
          exact ⟨by rw [HE.out];rfl,B3⟩
        | false =>
          have HE:Hid (formStep h i=0):=by
           show _=_
           rw [HE0.out,if_neg (fun hh=>hh.2 (by
            cases hq:fi (sameVal h y3) i with
            | none=>rfl
            | some q=>have:=HBW.out;rw [hq] at this;cases this)),if_neg (fun hh=>by rw [K3.out] at hh;exact absurd hh.1 (by decide))]
          go_wp2_with fail
          go_ret
          exact ⟨by rw [HE.out];rfl,B3⟩
       ·have e3:(y0==3)=false:=beq_eq_false_iff_ne.2 k3
        by_cases k2:y0=2
        ·have e2:(y0==2)=true:=by rw [k2];rfl
         by_cases kv:y3=[]
         ·have HE:Hid (formStep h i=0):=by show _=_;rw [HE0.out,if_neg (fun hh=>k3 hh.1),if_neg (fun hh=>hh.2.1 kv)]
          have ev1:y3.isEmpty=true:=by rw [kv];rfl
          have ev2:(y3 != [])=false:=by rw [kv];rfl
          have ev3:(y3==[])=true:=by rw [kv];rfl
          clear kv k1 k2 k3
          go_wp2_with fail
          go_ret
          exact ⟨by rw [HE.out];rfl,HB2.out⟩
         ·have ev1:y3.isEmpty=false:=ne_nil7 y3 kv
          have ev2:(y3 != [])=true:=by rw [bne_iff_ne];exact kv
          have ev3:(y3==[])=false:=beq_eq_false_iff_ne.2 kv
          have KV:Hid (y0=2∧y3≠[]∧¬ y0=3):=⟨k2,kv,k3⟩
          clear kv k1 k2 k3
          go_wp2_with fail
          refine (CR _ HB2.out).mono ?_
          rintro e V3 ⟨rfl,b3⟩
          have s2:=HB2.out.size
          have B3:=HB2.out.trans (b3.mono s2)
          cases r with
          | none =>
            have HE:Hid (formStep h i=7):=by show _=_;rw [HE0.out,if_neg (fun hh=>KV.out.2.2 hh.1),if_pos ⟨KV.out.1,KV.out.2.1,HR.out⟩]
            simp only [oI]
            go_wp2_with fail
            go_ret
            exact ⟨by rw [HE.out];rfl,B3⟩
          | some q =>
            have HE:Hid (formStep h i=0):=by show _=_;rw [HE0.out,if_neg (fun hh=>KV.out.2.2 hh.1),if_neg (fun hh=>by rw [HR.out] at hh;cases hh.2.2)]
            have eq1:((q:Int)==-1)=false:=by rw [beq_eq_false_iff_ne];omega
            simp only [oI]
            go_wp2_with fail
            go_ret
            exact ⟨by rw [HE.out];rfl,B3⟩
        ·have e2:(y0==2)=false:=beq_eq_false_iff_ne.2 k2
         have HE:Hid (formStep h i=0):=by show _=_;rw [HE0.out,if_neg (fun hh=>k3 hh.1),if_neg (fun hh=>k2 hh.1)]
         clear k1 k2 k3
         go_wp2_with fail
         go_ret
         exact ⟨by rw [HE.out];rfl,HB2.out⟩
end Go.Proofs.YtkkenfhlgpjmjaaGreatDoor
namespace Go.Proofs.YtkkenfhlgpjmjaaGreatDoor
set_option maxRecDepth 100000
open Go.RowKit Go.Shelf
set_option linter.unusedVariables false
attribute [local go_sem] Oper.semAt_some ba_size
theorem lives_open (h:List Ev) (y:Lf) (hy:y∈livesL h) (ho:y.2.2.1=h.length):∃ i,i < h.length∧openAt h i=true:=by
 unfold livesL at hy
 obtain ⟨i,hi,hf⟩:=List.mem_filterMap.1 hy
 have hil:=List.mem_range.1 hi
 by_cases h1:fstL h (ev h i).2.1 i=none
 ·rw [if_pos h1] at hf
  have hfn:fstL h (ev h i).2.1 h.length=some i:=(fstL_some h _ _ _).2 ⟨hil,rfl,(fstL_none h _ _).1 h1⟩
  unfold findL at hf
  rw [hfn] at hf
  simp only at hf
  cases he:endL h (ev h i).2.1 h.length with
  | none=>exact ⟨i,hil,by unfold openAt;rw [he];rfl⟩
  | some e =>
    rw [he] at hf
    simp only [Option.some.injEq] at hf
    rw [← hf] at ho
    have:=((endL_some h _ _ _).1 he).1
    simp only at ho
    omega
 ·rw [if_neg h1] at hf;cases hf
theorem lives_shut (h:List Ev) (hy:∀ y∈livesL h,y.2.2.1≠h.length):∀ i,i < h.length→openAt h i=false:=by
 intro i hi
 unfold openAt
 rw [decide_eq_false_iff_not]
 intro he
 cases hf:fstL h (ev h i).2.1 h.length with
 | none=>exact (fstL_none h _ _).1 hf i hi rfl
 | some q =>
   obtain ⟨q1,q2,q3⟩:=(fstL_some h _ _ _).1 hf
   have hfl:findL h (ev h i).2.1=some ((ev h i).2.1,q,h.length,false):=by unfold findL;rw [hf,he]
   refine hy ((ev h i).2.1,q,h.length,false) ?_ rfl
   unfold livesL
   refine List.mem_filterMap.2 ⟨q,List.mem_range.2 q1,?_⟩
   rw [q2,if_pos ((fstL_none h _ _).2 q3),hfl]
theorem results_cells8 {fn:Func} {P:Program} {p q:Tmp} {t1 t2:TypeId} (h:fn.results=#[.cell p t1,.cell q t2]) (tmps:Array Value) (w:World) (v:Value)
 (hv:((asAddr (tmps.getD p undef)).run P w).andThen (fun a w₁=>((loadVar t1 a).run P w₁).andThen fun x w₂=>((asAddr (tmps.getD q undef)).run P w₂).andThen fun b w₃=>((loadVar t2 b).run P w₃).andThen fun y w₄=>Result.ok (.tuple #[x,y]) w₄)=Result.ok v w) :
 (results fn tmps).run P w=.ok v w:=by
 rw [← hv]
 simp only [results,h]
 simp [Sem.run_bind,Result.andThen]
structure WSt (w:World) (sl:Value) (W:World):Prop where
 below:Below w.heap.size w W
 size:w.heap.size+1+1+1+1≤W.heap.size
 bh:Boxed W (w.heap.size) 22 (sl)
 r1:Boxed W (w.heap.size+1) 3 (.int .i64 0)
 r2:Boxed W (w.heap.size+1+1) 36 (.int .i64 0)
 be:Boxed W (w.heap.size+1+1+1) 22 (sl)
theorem WSt.bel {w:World} {sl:Value} {W W':World} (h:WSt w sl W) (hb:Below (w.heap.size+1+1+1+1) W W'):WSt w sl W' :=
 ⟨h.below.trans (hb.mono (by omega)),Nat.le_trans h.size hb.size,boxed_bel h.bh hb (by omega),boxed_bel h.r1 hb (by omega),boxed_bel h.r2 hb (by omega),boxed_bel h.be hb (by omega)⟩
def WInv (w:World) (sl:Value) (h:List Ev) (pre:List (Fin h.length)) (W:World):Prop :=
 WSt w sl W∧(pre <+: List.finRange h.length→∀ j,j < pre.length→wrongAt h j=false)
def WOut (w:World) (h:List Ev) (c:Code) (pre:List (Fin h.length)) (W:World):Prop :=
 c=.ret∧w.heap.size+1+1+1+1≤W.heap.size∧Below w.heap.size w W∧∃ i e:Nat,Boxed W (w.heap.size+1) 3 (.int .i64 (i:Int))∧Boxed W (w.heap.size+1+1) 36 (.int .i64 (e:Int))∧(pre <+: List.finRange h.length→formedL h=(i,e))
set_option maxHeartbeats 8000000 in
theorem pformed8_any (h:List Ev) (v:Value) (w:World) (hT:IsEvs w v h) (hG:∀ x∈h,goodE x) :
 Calls Tryz.prog 76 #[v] w fun e w'=>e=.returned (.tuple #[.int .i64 ((formedL h).1:Int),.int .i64 ((formedL h).2:Int)])∧Below w.heap.size w w':=by
 have hT0:=hT
 obtain ⟨a,cap,rfl,h1,h2,h3,HC⟩:=hT.some_at
 clear HC hT
 by_cases hbig:256 < h.length
 ·rw [formed_big h hbig]
  have j:(256:Int) < (h.length:Int):=by omega
  have b1:=(((Below.refl w.heap.size w).alloc (Nat.le_refl _) (.cells #[.slice a h.length cap] 22)).alloc (by simp) (.cells #[.int .i64 0] 3)).alloc (by simp;omega) (.cells #[.int .i64 0] 36)
  clear hT0 hG hbig
  go_enter Tryz.func76,Tryz.ntmps76
  go_wp2_with fail
  refine bodyPost_ret (v:=.tuple #[.int .i64 0,.int .i64 4]) (results_cells8 rfl _ _ _ (by simp [go_sem])) rfl ⟨rfl,?_⟩
  exact (((Below.refl w.heap.size w).alloc (Nat.le_refl _) _).alloc (by simp) _).alloc (by simp;omega) _
 have hl:¬ 256 < h.length:=hbig
 have HL:Hid (¬ 256 < h.length):=hl
 have jb:¬ (256:Int) < (h.length:Int):=by omega
 refine (callsIn_wide (n:=3)).1 ?_
 refine callsIn_of_wp_marks Tryz.func76 rfl trivial ?_ rfl
 simp only [Tryz.ntmps76,List.size_toArray,List.length_cons,List.length_nil,Nat.reduceAdd,Nat.reduceSub,Array.replicate_succ,Array.replicate_zero,List.push_toArray,List.append_toArray,List.nil_append,List.cons_append]
 gi_wp2_with ((try refine ⟨trivial,?_⟩);gi_at_call 135;refine (callsIn_wide.2 (pevents8_any _ _ _ _)).mono ?_;rintro e w2 ⟨rfl,rfl⟩)
 have hS0:WSt w (.slice a h.length cap) ((((w.alloc (.cells #[.slice a h.length cap] 22)).alloc (.cells #[.int .i64 0] 3)).alloc (.cells #[.int .i64 0] 36)).alloc (.cells #[.slice a h.length cap] 22)):=by
  have b0:=((((Boxed.new w 22 (.slice a h.length cap)).alloc (.cells #[.int .i64 0] 3)).alloc (.cells #[.int .i64 0] 36)).alloc (.cells #[.slice a h.length cap] 22))
  have b1:=(((Boxed.new (w.alloc (.cells #[.slice a h.length cap] 22)) 3 (.int .i64 0)).alloc (.cells #[.int .i64 0] 36)).alloc (.cells #[.slice a h.length cap] 22))
  have b2:=((Boxed.new ((w.alloc (.cells #[.slice a h.length cap] 22)).alloc (.cells #[.int .i64 0] 3)) 36 (.int .i64 0)).alloc (.cells #[.slice a h.length cap] 22))
  have b3:=(Boxed.new (((w.alloc (.cells #[.slice a h.length cap] 22)).alloc (.cells #[.int .i64 0] 3)).alloc (.cells #[.int .i64 0] 36)) 22 (.slice a h.length cap))
  (try simp only [World.size_alloc] at b0 b1 b2 b3)
  exact ⟨(((((Below.refl _ w).alloc (by first | exact Nat.le_refl _ | (simp only [World.size_alloc];omega)) _).alloc (by first | exact Nat.le_refl _ | (simp only [World.size_alloc];omega)) _).alloc (by first | exact Nat.le_refl _ | (simp only [World.size_alloc];omega)) _).alloc (by first | exact Nat.le_refl _ | (simp only [World.size_alloc];omega)) _),(by simp),b0,b1,b2,b3⟩
 obtain ⟨W0,hW0⟩:∃ W0,((((w.alloc (.cells #[.slice a h.length cap] 22)).alloc (.cells #[.int .i64 0] 3)).alloc (.cells #[.int .i64 0] 36)).alloc (.cells #[.slice a h.length cap] 22))=W0:=⟨_,rfl⟩
 have sW0:W0.heap.size=w.heap.size+1+1+1+1:=by rw [← hW0];simp
 change Code.wpIn _ _ _ _ _ _ ((((w.alloc (.cells #[.slice a h.length cap] 22)).alloc (.cells #[.int .i64 0] 3)).alloc (.cells #[.int .i64 0] 36)).alloc (.cells #[.slice a h.length cap] 22))
 rw [hW0] at hS0 ⊢
 clear hW0
 refine wpIn_rangeFunc_ownH rfl (by omega) (gf:=192) (lb:=#[.pointer (some ⟨w.heap.size+1+1+1,0,none⟩)]) rfl trivial (enters_of Tryz.func192 (by kernel_rfl) rfl)
  (events8_stops h w a cap hT0 (w.heap.size+1+1+1) (3 - 1) W0 hS0.below hS0.be) (fun h k=>kpE_t h k) (kpE_b (by omega) (by omega)) (Below.refl _ _) (fun _=>rfl)
  (WInv w (.slice a h.length cap) h) (WOut w h)
  (ownFrom_of_below (fun _ W ⟨h1,_⟩=>by rw [sW0];exact h1.size) (fun _ W W' ⟨h1,h2⟩ hb=>⟨h1.bel (by rw [sW0] at hb;exact hb),h2⟩))
  (fun c=>ownFrom_of_below (fun _ W ⟨h1,h2,h3⟩=>by rw [sW0];exact h2) (fun _ W W' ⟨h1,h2,h3,i,e,h4,h5,h6⟩ hb=>by
   rw [sW0] at hb
   exact ⟨h1,Nat.le_trans h2 hb.size,h3.trans (hb.mono (by omega)),i,e,boxed_bel h4 hb (by omega),boxed_bel h5 hb (by omega),h6⟩))
  ⟨hS0,fun _ j hj=>by simp at hj⟩
  (fun x a' W=>a'={ tmps:=#[.slice a h.length cap,.pointer (some ⟨w.heap.size,0,none⟩),.pointer (some ⟨w.heap.size+1,0,none⟩),.pointer (some ⟨w.heap.size+1+1,0,none⟩),.int .i64 (x.val:Int),undef,undef,undef,.slice a h.length cap,.int .i64 (h.length:Int),.bool false,.slice a h.length cap,eventsF8 (w.heap.size+1+1+1),.int .i64 (x.val:Int),evW h[x.val],undef,undef,undef,undef,undef,undef,undef,undef,undef,undef,undef,undef,undef,undef,undef,undef,undef,undef,undef,undef,undef,undef,undef,undef],defers:=[] })
  (fun x a' _ A B row hs hg hr=>hs)
  ?assign ?body ?done ?stop
 case assign =>
  rintro l pre x W K ⟨hS,hp⟩ hK
  gi_wp2
  exact hK _ _ (KeepsFrom.refl _ _) ⟨Below.refl _ _,rfl⟩ ⟨hS,hp⟩ rfl
 case body =>
  rintro l pre x a' W hl hrec ⟨hS,hp⟩ rfl hlt
  have HW0:Hid (W0.heap.size=w.heap.size+1+1+1+1):=sW0
  clear sW0 hS0 hl hrec
  have hsz:=hS.size
  have hxn:=x.isLt
  obtain ⟨i,hxi⟩:∃ i,x.val=i:=⟨_,rfl⟩
  have HI:Hid (x.val=i):=hxi
  obtain ⟨ye,hye⟩:∃ y,evW h[x.val]=y:=⟨_,rfl⟩
  rw [hye]
  clear hye
  rw [hxi] at hxn ⊢
  clear hxi
  have c0:=hS.bh.cell
  have C:=pfault8_any h (.slice a h.length cap) W (hT0.below hS.below) i hxn (by omega)
  by_cases hm:formStep h i=0
  ·have HM:Hid (formStep h i=0):=hm
   rw [hm] at C
   clear hm
   gi_wp2_with ((try refine ⟨trivial,?_⟩);gi_at_call 136;refine (CallsIn.inRound l (callsIn_wide.2 C)).mono ?_;clear C;rintro e W1 ⟨rfl,b1⟩;refine Hid.out ?_)
   have s1:=b1.size
   have hS2:=hS.bel (b1.mono hsz)
   have HF:Hid (KeepsFrom W0.heap.size W W1∧KpE w.heap.size (w.heap.size+1+1+1) W W1∧WInv w (.slice a h.length cap) h (pre++[x]) W1) :=
    ⟨(keeps_of_below b1).from _,⟨b1.mono (by omega),b1.block _ (by omega)⟩,hS2,fun hpre j hj=>by
      obtain ⟨hp1,hp2,hp3⟩:=fin_prefix hpre
      rw [List.length_append,List.length_singleton] at hj
      have ei:=HI.out
      refine upto_next (wrongAt h) pre.length (hp hp1) ?_ j hj
      unfold wrongAt
      rw [← hp2,ei,HM.out]
      rfl⟩
   clear hS hS2 hp HI HM
   refine Lib.hid ?_
   gi_wp2
   exact HF.out
  ·have HM:Hid (¬ formStep h i=0):=hm
   obtain ⟨c,hc⟩:∃ c,formStep h i=c:=⟨_,rfl⟩
   have HCc:Hid (formStep h i=c):=hc
   rw [hc] at C hm
   have ec:((c:Int) != 0)=true:=by rw [bne_iff_ne];omega
   have ec2:((c:Int)==0)=false:=by rw [beq_eq_false_iff_ne];omega
   clear hm hc
   gi_wp2_with ((try refine ⟨trivial,?_⟩);gi_at_call 136;refine (CallsIn.inRound l (callsIn_wide.2 C)).mono ?_;clear C;rintro e W1 ⟨rfl,b1⟩;refine Hid.out ?_)
   have s1:=b1.size
   have hS2:=hS.bel (b1.mono hsz)
   have f1:=hS2.r1.cell
   have g1:=hS2.r1.frozen
   have f2:=hS2.r2.cell
   have g2:=hS2.r2.frozen
   have HF:Hid (KeepsFrom W0.heap.size W ((W1.setCell ⟨w.heap.size+1,0,none⟩ (.int .i64 (i:Int))).setCell ⟨w.heap.size+1+1,0,none⟩ (.int .i64 (c:Int)))∧WOut w h .ret (pre++[x]) ((W1.setCell ⟨w.heap.size+1,0,none⟩ (.int .i64 (i:Int))).setCell ⟨w.heap.size+1+1,0,none⟩ (.int .i64 (c:Int)))):=by
    refine ⟨(((keeps_of_below b1).trans (KeepsOthers.setCell _ _ _)).trans (KeepsOthers.setCell _ _ _)).from _,rfl,by simp;omega,(hS2.below.setCell (p:=⟨w.heap.size+1,0,none⟩) (by simp) _).setCell (p:=⟨w.heap.size+1+1,0,none⟩) (by simp;omega) _,i,c,(hS2.r1.set _).other (by omega) _,(hS2.r2.other (by omega) _).set _,fun hpre=>?_⟩
    obtain ⟨hp1,hp2,hp3⟩:=fin_prefix hpre
    have ei:=HI.out
    exact formed_at h HL.out i c hxn (fun j hj=>hp hp1 j (by omega)) HCc.out (by have:=HM.out;rw [HCc.out] at this;exact this)
   clear hS hS2 hp HI HM
   refine Lib.hid ?_
   gi_wp2
   exact HF.out
 case done =>
  rintro D ys W hD rfl ⟨hS,hp⟩ hK
  have HA:Hid (∀ j,j < h.length→wrongAt h j=false):=fun j hj=>hp (List.prefix_refl _) j (by rw [List.length_finRange];exact hj)
  have HD:Hid (w.heap.size+1+1+1+1≤D):=by rw [sW0] at hD;exact hD
  have c0:=hS.bh.cell
  have C:=plives8_any h (.slice a h.length cap) W (hT0.below hS.below) hG (by omega)
  clear sW0 hS0 hD hp
  gi_wp2_with ((try refine ⟨trivial,?_⟩);gi_at_call 137;refine (callsIn_wide.2 C).mono ?_;clear C;rintro e W1 ⟨r,rfl,b1,hrow⟩;refine Hid.out ?_)
  obtain ⟨gr,cr,rfl,hcr⟩:=own_slice9 hrow
  have hsz:=hS.size
  have hS1:=hS.bel (b1.mono hsz)
  have z1:=b1.size
  have hK1:=(keeps_of_below b1).same D _ hK rfl
  have hDlt:D < W1.heap.size:=(Array.getElem?_eq_some_iff.1 hK1).1
  obtain ⟨L,hLs⟩:∃ L,livesL h=L:=⟨_,rfl⟩
  have HLs:Hid (livesL h=L):=hLs
  rw [hLs] at hrow hcr ⊢
  have hlen:L.length≤300:=by rw [← hLs];have:=lives_len h;omega
  clear hLs hS
  have HS1:=Lib.hid hS1
  have HB1:=Lib.hid b1
  have c1:=hS1.bh.cell
  refine Lib.hid ?_
  gi_wp2
  gi_loopw [25] (fun i wr=>∃ k:Nat,k≤L.length∧i=.int .i64 k∧Hid (∀ j (hj:j < k) (hl:j < L.length),L[j].2.2.1≠h.length)∧Below W1.heap.size W1 wr) (fun i _=>L.length - (RowKit.intOf i).toNat)
  case atStart=>exact ⟨0,Nat.zero_le _,rfl,(fun j hj=>by omega),Below.refl _ _⟩
  case round =>
   obtain ⟨k,hk,rfl,HQ,hB⟩:=hrel
   have hwr:=hB.size
   have hSr:=HS1.out.bel (hB.mono HS1.out.size)
   have c2:=hSr.bh.cell
   have hKr:wr.heap[D]?=some (.deferred (some [])):=(hB.block D hDlt).trans hK1
   have f1:=hSr.r1.cell
   have g1:=hSr.r1.frozen
   have f2:=hSr.r2.cell
   have g2:=hSr.r2.frozen
   by_cases hlt:k < L.length
   ·have ji:(k:Int) < (L.length:Int):=by omega
    obtain ⟨g,rfl⟩:∃ g,gr=some ⟨g,0,none⟩:=by
     rcases hrow.2 with ⟨e,h0⟩ | ⟨g,cp,cur,e,_⟩
     ·omega
     ·simp at e;exact ⟨g,e.1⟩
    have hgl:g < W1.heap.size:=(hrow.lt g rfl).2
    have l0:=(hB.cell (p:=⟨g,k*4,none⟩) hgl).trans (life_cell hrow hlt 0 (by rw [lifV_len];omega))
    have l1:=(hB.cell (p:=⟨g,k*4+1,none⟩) hgl).trans (life_cell hrow hlt 1 (by rw [lifV_len];omega))
    have l2:=(hB.cell (p:=⟨g,k*4+2,none⟩) hgl).trans (life_cell hrow hlt 2 (by rw [lifV_len];omega))
    have l3:=(hB.cell (p:=⟨g,k*4+3,none⟩) hgl).trans (life_cell hrow hlt 3 (by rw [lifV_len];omega))
    simp only [lifV,List.getElem_cons_succ,List.getElem_cons_zero] at l0 l1 l2 l3
    have HM:Hid (L[k]∈L):=List.getElem_mem _
    obtain ⟨⟨t0,t1,t2,t3⟩,hy⟩:∃ y,L[k]=y:=⟨_,rfl⟩
    have HY:Hid (L[k]=(t0,t1,t2,t3)):=hy
    rw [hy] at l0 l1 l2 l3 HM
    simp only at l0 l1 l2 l3
    clear hy
    have bA:=(Below.refl wr.heap.size wr).alloc (Nat.le_refl _) (.cells #[.int .i64 t0,.int .i64 (t1:Int),.int .i64 (t2:Int),.bool t3] 73)
    have hSa:=hSr.bel (bA.mono (by have:=HS1.out.size;omega))
    have ca:=hSa.bh.cell
    have fa1:=hSa.r1.cell
    have ga1:=hSa.r1.frozen
    have fa2:=hSa.r2.cell
    have ga2:=hSa.r2.frozen
    have hKa:=(KeepsOthers.alloc wr (.cells #[.int .i64 t0,.int .i64 (t1:Int),.int .i64 (t2:Int),.bool t3] 73)).same D _ hKr rfl
    have hBa:=hB.trans (bA.mono hwr)
    by_cases ho:t2=h.length
    ·have e1:((t2:Int)==(h.length:Int))=true:=by rw [ho];exact beq_self_eq_true _
     have HE:Hid (formedL h=(h.length,9)):=by
      obtain ⟨i,hi,hoi⟩:=lives_open h (t0,t1,t2,t3) (by rw [HLs.out];exact HM.out) ho
      exact formed_open h HL.out HA.out i hi hoi
     clear ho HM HY HQ
     gi_wp2
     have hK':=((KeepsOthers.setCell (wr.alloc (.cells #[.int .i64 t0,.int .i64 (t1:Int),.int .i64 (t2:Int),.bool t3] 73)) ⟨w.heap.size+1,0,none⟩ (.int .i64 (h.length:Int))).trans (KeepsOthers.setCell _ ⟨w.heap.size+1+1,0,none⟩ (.int .i64 9))).same D _ hKa rfl
     have B9:=(hSa.below.setCell (p:=⟨w.heap.size+1,0,none⟩) (by simp) (.int .i64 (h.length:Int))).setCell (p:=⟨w.heap.size+1+1,0,none⟩) (by simp;omega) (.int .i64 9)
     have R1:=(hSa.r1.set (.int .i64 (h.length:Int))).other (B':=w.heap.size+1+1) (by omega) (.int .i64 9)
     have R2:=(hSa.r2.other (B':=w.heap.size+1) (by omega) (.int .i64 (h.length:Int))).set (.int .i64 9)
     refine ⟨by simp,.inl ⟨_,_,rfl,run_takeDeferred hK',?_⟩⟩
     have d1:=cell_kept R1.cell (grownBy_putObj' _ D (.deferred none)) (fun r e=>by cases e;exact ⟨_,hK',rfl⟩)
     have d2:=cell_kept R2.cell (grownBy_putObj' _ D (.deferred none)) (fun r e=>by cases e;exact ⟨_,hK',rfl⟩)
     refine ⟨.tuple #[.int .i64 (h.length:Int),.int .i64 9],?_,by rw [HE.out];rfl,B9.trans (belowK_b (w:=w) (Nat.le_refl _) _ D _ _ (by have:=HD.out;omega) hK' rfl rfl)⟩
     refine results_cells8 rfl _ _ _ ?_
     simp [go_sem,d1,d2]
    ·have e1:((t2:Int)==(h.length:Int))=false:=by rw [beq_eq_false_iff_ne];omega
     have HQ':Hid (∀ j (hj:j < k+1) (hl:j < L.length),L[j].2.2.1≠h.length):=fun j hj hl=>by
      rcases Nat.lt_or_ge j k with h' | h'
      ·exact HQ.out j h' hl
      ·obtain rfl:j=k:=by omega
       rw [HY.out]
       exact ho
     clear ho HM HY HQ
     gi_wp2
     go_roundw
     case rel=>exact ⟨k+1,by omega,by first | go_num | simp,HQ',hBa⟩
     case measure=>simp [RowKit.intOf];omega
   ·have HE:Hid (formedL h=(h.length,0)):=formed_fine h HL.out HA.out (lives_shut h (fun y hy=>by
     rw [HLs.out] at hy
     obtain ⟨j,hj,rfl⟩:=List.getElem_of_mem hy
     exact HQ.out j (by omega) hj))
    obtain rfl:k=L.length:=by omega
    clear HQ
    gi_wp2
    have hK':=((KeepsOthers.setCell wr ⟨w.heap.size+1,0,none⟩ (.int .i64 (h.length:Int))).trans (KeepsOthers.setCell _ ⟨w.heap.size+1+1,0,none⟩ (.int .i64 0))).same D _ hKr rfl
    have B9:=(hSr.below.setCell (p:=⟨w.heap.size+1,0,none⟩) (by simp) (.int .i64 (h.length:Int))).setCell (p:=⟨w.heap.size+1+1,0,none⟩) (by simp;omega) (.int .i64 0)
    have R1:=(hSr.r1.set (.int .i64 (h.length:Int))).other (B':=w.heap.size+1+1) (by omega) (.int .i64 0)
    have R2:=(hSr.r2.other (B':=w.heap.size+1) (by omega) (.int .i64 (h.length:Int))).set (.int .i64 0)
    refine ⟨by simp,.inl ⟨_,_,rfl,run_takeDeferred hK',?_⟩⟩
    have d1:=cell_kept R1.cell (grownBy_putObj' _ D (.deferred none)) (fun r e=>by cases e;exact ⟨_,hK',rfl⟩)
    have d2:=cell_kept R2.cell (grownBy_putObj' _ D (.deferred none)) (fun r e=>by cases e;exact ⟨_,hK',rfl⟩)
    refine ⟨.tuple #[.int .i64 (h.length:Int),.int .i64 0],?_,by rw [HE.out];rfl,B9.trans (belowK_b (w:=w) (Nat.le_refl _) _ D _ _ (by have:=HD.out;omega) hK' rfl rfl)⟩
    refine results_cells8 rfl _ _ _ ?_
    simp [go_sem,d1,d2]
 case stop =>
  rintro D c pre W hD hSp ⟨rfl,hs,hb,i,e,hr1,hr2,hbad⟩ hK
  have HE:Hid (formedL h=(i,e)):=hbad hSp
  have HD:Hid (w.heap.size+1+1+1+1≤D):=by rw [sW0] at hD;exact hD
  clear sW0 hS0 hD hbad
  gi_wp2
  refine ⟨by simp,.inl ⟨_,_,rfl,run_takeDeferred hK,?_⟩⟩
  have d1:=cell_kept hr1.cell (grownBy_putObj' _ D (.deferred none)) (fun r e=>by cases e;exact ⟨_,hK,rfl⟩)
  have d2:=cell_kept hr2.cell (grownBy_putObj' _ D (.deferred none)) (fun r e=>by cases e;exact ⟨_,hK,rfl⟩)
  refine ⟨.tuple #[.int .i64 (i:Int),.int .i64 (e:Int)],?_,by rw [HE.out],hb.trans (belowK_b (w:=w) (Nat.le_refl _) _ D _ _ (by have:=HD.out;omega) hK rfl rfl)⟩
  refine results_cells8 rfl _ _ _ ?_
  simp [go_sem,d1,d2]
end Go.Proofs.YtkkenfhlgpjmjaaGreatDoor
namespace Go.Proofs.YtkkenfhlgpjmjaaGreatDoor
set_option maxRecDepth 100000
open Go.RowKit Go.Maps
set_option linter.unusedVariables false
attribute [local go_sem] ba_size
theorem own_str14 {W:World} {B n c:Nat} {a:Option Addr} {K:List (List UInt8)} (h:W.ownsRow B 9 1 (.slice a n c) n (strV K)) (hn:K.length=n) (k:Nat) (hk:k < K.length):∃ g,a=some ⟨g,0,none⟩∧W.cell? ⟨g,k,none⟩=some (.string ⟨K[k].toArray⟩):=by
 rcases h.2 with ⟨e,h0⟩ | ⟨g,cp,cur,e,_⟩
 ·omega
 ·obtain ⟨rfl,rfl⟩:a=some ⟨g,0,none⟩∧c=cp:=by simpa using e
  refine ⟨g,rfl,?_⟩
  rw [h.cellAt k (by omega)]
  simp [strV,List.getElem?_eq_getElem hk]
theorem flat14_no (w:World):Calls Tryz.prog 144 #[.slice none 0 0] w fun e w'=>e=.returned (.slice none 0 0)∧w'=w:=by
 go_enter Tryz.func144,Tryz.ntmps144
 go_wp2_with fail
 go_loopw [3,8] (fun r i wr=>r=.slice none 0 0∧i=.int .i64 0∧wr=w) (fun _ _ _=>0)
 case atStart=>exact ⟨rfl,rfl,rfl⟩
 case round =>
  obtain ⟨rfl,rfl,rfl⟩:=hrel
  go_wp2_with fail
  go_ret
  exact ⟨rfl,rfl⟩
theorem serial14_no (w:World):Calls Tryz.prog 197 #[.slice none 0 0] w fun e w'=>e=.returned (.slice none 0 0)∧w'=w:=by
 go_enter Tryz.func197,Tryz.ntmps197
 go_wp2_with fail
 go_loopw [3,8] (fun r i wr=>r=.slice none 0 0∧i=.int .i64 0∧wr=w) (fun _ _ _=>0)
 case atStart=>exact ⟨rfl,rfl,rfl⟩
 case round =>
  obtain ⟨rfl,rfl,rfl⟩:=hrel
  go_wp2_with fail
  go_ret
  exact ⟨rfl,rfl⟩
theorem steps14_no (w:World):Calls Tryz.prog 139 #[.int .i64 1,.slice none 0 0] w fun e w'=>e=.returned (.slice none 0 0)∧w'=w:=by
 go_enter Tryz.func139,Tryz.ntmps139
 go_wp2_with fail
 refine (serial14_no _).mono ?_
 rintro e w1 ⟨rfl,rfl⟩
 go_wp2_with fail
 go_ret
 exact ⟨rfl,rfl⟩
set_option maxHeartbeats 4000000 in
theorem ofkey14_no (h:List Ev) (v:Value) (w:World) (hT:IsEvs w v h) (hG:∀ x∈h,goodE x) (hl:h.length≤300) (hR:∀ q,q < h.length→(ev h q).1≠2) (key:List UInt8) (hV:(versL h key).length≤1) (fv:Value) :
 Calls Tryz.prog 202 #[v,.string ⟨key.toArray⟩,fv] w fun e w'=>e=.returned (.tuple #[])∧Below w.heap.size w w':=by
 have CV:=pvers8_any h v w key hT hG hl
 have CO:=fun (k:Nat) (hk:k < h.length) W' (hW':Below w.heap.size w W')=>outer14_no h v W' (hT.below hW') k hk (hR k hk)
 obtain ⟨a,cap,rfl,h1,h2,h3,HC⟩:=hT.reads
 have HL:Hid (((versL h key).map Int.ofNat).length≤1):=by show _≤_;rw [List.length_map];exact hV
 obtain ⟨V,hVe⟩:∃ V,(versL h key).map Int.ofNat=V:=⟨_,rfl⟩
 rw [hVe] at CV HL
 obtain ⟨nh,hnh⟩:∃ nh,h.length=nh:=⟨_,rfl⟩
 have HNh:=Lib.hid hnh
 simp only [hnh] at CV CO h1 h3 ⊢
 clear hVe hT hG hR hV hnh hl
 go_enter Tryz.func202,Tryz.ntmps202
 go_wp2_with fail
 refine CV.mono ?_
 rintro e1 w1 ⟨vs,rfl,b1,hv1⟩
 obtain ⟨adv,cv,rfl⟩:=own_shape11 hv1
 obtain ⟨n,hn⟩:∃ n,V.length=n:=⟨_,rfl⟩
 have hl1:=HL.out
 rw [hn] at hl1 ⊢
 have jwn:IntKind.i64.wrap ((n:Int) - 1)=(n:Int) - 1:=by rw [IntKind.wrap_i64];omega
 have jn:¬ (0:Int) < (n:Int) - 1:=by omega
 clear hv1 hn CV
 go_wp2_with fail
 go_loopw [15] (fun i wr=>i=.int .i64 0∧wr=w1) (fun _ _=>0)
 case atStart=>exact ⟨rfl,rfl⟩
 case round =>
  obtain ⟨rfl,rfl⟩:=hrel
  go_wp2_with fail
  obtain ⟨wB,hwB⟩:∃ wB,wB=wr:=⟨_,rfl⟩
  have b1':Below w.heap.size w wB:=by rw [hwB];exact b1
  subst hwB
  clear b1
  go_loopw [32] (fun i wr=>∃ k:Nat,k≤nh∧i=.int .i64 (k:Int)∧Below w.heap.size w wr) (fun i _=>nh - (RowKit.intOf i).toNat)
  case atStart=>exact ⟨0,Nat.zero_le _,rfl,b1'⟩
  case round =>
   obtain ⟨k,hk,rfl,hB⟩:=hrel
   by_cases hlt:k < nh
   ·have j0:(k:Int) < (nh:Int):=by omega
    have hkh:k < h.length:=by have:=HNh.out;omega
    obtain ⟨bb,off,rfl,HQ⟩:=HC.out (by omega)
    obtain ⟨_,_,c2,_⟩:=HQ.out k hkh _ hB
    have D:=CO k hlt wr hB
    obtain ⟨x2,hx⟩:∃ x,(ev h k).2.2.1=x:=⟨_,rfl⟩
    rw [hx] at c2
    clear hx HQ
    by_cases hy:x2=key
    ·have e1:(x2==key)=true:=beq_iff_eq.2 hy
     subst hy
     go_wp2_with fail
     refine D.mono ?_
     rintro e w2 ⟨rfl,b2⟩
     go_wp2_with fail
     exact ⟨⟨k+1,by omega,by first | go_num | simp,bel_trans hB b2⟩,by simp [RowKit.intOf];omega⟩
    ·have e1:(x2==key)=false:=beq_eq_false_iff_ne.2 hy
     clear hy
     go_wp2_with fail
     exact ⟨⟨k+1,by omega,by first | go_num | simp,hB⟩,by simp [RowKit.intOf];omega⟩
   ·obtain rfl:k=nh:=by omega
    have jq:¬ (k:Int) < (k:Int):=by omega
    go_wp2_with fail
    go_end0
    exact ⟨rfl,hB⟩
set_option maxHeartbeats 4000000 in
theorem all14_no (h:List Ev) (v:Value) (w:World) (hT:IsEvs w v h) (hG:∀ x∈h,goodE x) (hl:h.length≤300) (hR:∀ q,q < h.length→(ev h q).1≠2) (hV:∀ key,(versL h key).length≤1) :
 Calls Tryz.prog 140 #[v] w fun e w'=>e=.returned (.slice none 0 0)∧Below w.heap.size w w':=by
 obtain ⟨a,cap,rfl,h1,h2,h3,HC⟩:=hT.reads
 have B0:Below w.heap.size w ((w.alloc (.cells #[.slice a h.length cap] 22)).alloc (.cells #[.slice none 0 0] 26)):=((Below.refl _ w).alloc (Nat.le_refl _) _).alloc (by simp) _
 have x0:=(Boxed.new w 22 (.slice a h.length cap)).alloc (.cells #[.slice none 0 0] 26)
 have x1:=Boxed.new (w.alloc (.cells #[.slice a h.length cap] 22)) 26 (.slice none 0 0)
 rw [World.size_alloc] at x1
 have CK:=pkeys8_any h (.slice a h.length cap) _ (hT.below B0) hG hl
 have CF:=fun key fv W (hW:Below w.heap.size w W)=>ofkey14_no h (.slice a h.length cap) W (hT.below hW) hG hl hR key (hV key) fv
 have hkl:(keysL h).length≤300:=Nat.le_trans (keys_len h) hl
 obtain ⟨K,hK⟩:∃ K,keysL h=K:=⟨_,rfl⟩
 rw [hK] at CK hkl
 obtain ⟨nh,hnh⟩:∃ nh,h.length=nh:=⟨_,rfl⟩
 simp only [hnh] at CK CF h1 h3 B0 x0 x1 ⊢
 clear hT hG hR hV hnh hK hl HC
 have c0:=x0.cell
 go_enter Tryz.func140,Tryz.ntmps140
 go_wp2_with fail
 refine CK.mono ?_
 rintro e1 w1 ⟨vk,rfl,b1,hk1⟩
 obtain ⟨adk,ck,rfl⟩:=own_shape11 hk1
 have B1:=bel_trans B0 b1
 have y0:=boxed_below7 x0 b1
 have y1:=boxed_below7 x1 b1
 obtain ⟨n,hn⟩:∃ n,K.length=n:=⟨_,rfl⟩
 have HN:=Lib.hid hn
 rw [hn] at hk1 hkl ⊢
 have HK1:=Lib.hid hk1
 clear CK x0 x1 c0 B0 hn hk1
 go_wp2_with fail
 go_loopw [11] (fun i wr=>∃ k:Nat,k≤n∧i=.int .i64 (k:Int)∧Below w1.heap.size w1 wr) (fun i _=>n - (RowKit.intOf i).toNat)
 case atStart=>exact ⟨0,Nat.zero_le _,rfl,Below.refl _ _⟩
 case round =>
  obtain ⟨k,hk,rfl,hB⟩:=hrel
  have z0:=(boxed_below7 y0 hB).cell
  have z1:=(boxed_below7 y1 hB).cell
  have hB1:=bel_trans B1 hB
  by_cases hlt:k < n
  ·have j0:(k:Int) < (n:Int):=by omega
   have hkK:k < K.length:=by have:=HN.out;omega
   obtain ⟨g,ea,cellK⟩:=own_str14 (owns_below HK1.out hB) HN.out k hkK
   subst ea
   obtain ⟨key,hkey⟩:∃ key,K[k]=key:=⟨_,rfl⟩
   rw [hkey] at cellK
   clear hkey
   go_wp2_with fail
   refine (CF key _ wr hB1).mono ?_
   rintro e w2 ⟨rfl,b2⟩
   go_wp2_with fail
   exact ⟨⟨k+1,by omega,by first | go_num | simp,bel_trans hB b2⟩,by simp [RowKit.intOf];omega⟩
  ·obtain rfl:k=n:=by omega
   have jq:¬ (k:Int) < (k:Int):=by omega
   go_wp2_with fail
   go_ret
   exact ⟨rfl,hB1⟩
def JdRes (w:World) (e:Ending) (w':World) (two:Bool):Prop:=∃ oa oc,e=.returned (if two=true then .tuple #[.agg #[.int .i64 1,.bool true,.slice oa 1 oc,.int .i64 0,.int .i64 0,.int .i64 0,.slice none 0 0],.int .i64 0] else .agg #[.int .i64 1,.bool true,.slice oa 1 oc,.int .i64 0,.int .i64 0,.int .i64 0,.slice none 0 0])∧Below w.heap.size w w'∧w'.ownsRow w.heap.size 3 1 (.slice oa 1 oc) 1 [.int .i64 1]
structure F14 (w W:World) (cv:Array Value):Prop where
 r:SBox W w.heap.size 28 #[.int .i64 0,.bool false,.slice none 0 0,.int .i64 0,.int .i64 0,.int .i64 0,.slice none 0 0]
 v:SBox W (w.heap.size+1) 28 cv
 b:Below w.heap.size w W
theorem F14.below {w W W':World} {cv:Array Value} (h:F14 w W cv) (hb:Below W.heap.size W W'):F14 w W' cv:=⟨h.r.below hb,h.v.below hb,bel_trans h.b hb⟩
theorem F14.new (w:World):F14 w ((w.alloc (.cells #[.int .i64 0,.bool false,.slice none 0 0,.int .i64 0,.int .i64 0,.int .i64 0,.slice none 0 0] 28)).alloc (.cells #[.int .i64 1,.bool false,.slice none 0 0,.int .i64 0,.int .i64 0,.int .i64 0,.slice none 0 0] 28)) #[.int .i64 1,.bool false,.slice none 0 0,.int .i64 0,.int .i64 0,.int .i64 0,.slice none 0 0]:=by
 have V0:=SBox.new (w.alloc (.cells #[.int .i64 0,.bool false,.slice none 0 0,.int .i64 0,.int .i64 0,.int .i64 0,.slice none 0 0] 28)) 28 #[.int .i64 1,.bool false,.slice none 0 0,.int .i64 0,.int .i64 0,.int .i64 0,.slice none 0 0]
 rw [World.size_alloc] at V0
 exact ⟨(SBox.new w 28 _).alloc _,V0,((Below.refl _ w).alloc (Nat.le_refl _) _).alloc (by simp) _⟩
set_option maxHeartbeats 8000000 in
theorem found14_one (h:List Ev) (v:Value) (w:World) (hT:IsEvs w v h) (hG:∀ x∈h,goodE x) (hf:fewH h) (hR:∀ q,q < h.length→(ev h q).1≠2) (hV:∀ key,(versL h key).length≤1) (hN:nodeL h=[1]) :
 Calls Tryz.prog 77 #[v,.int .i64 1] w fun e w'=>JdRes w e w' false:=by
 have CF:=fun W (hW:Below w.heap.size w W)=>first14_no h v W (hT.below hW) hR
 have CA:=fun W (hW:Below w.heap.size w W)=>all14_no h v W (hT.below hW) hG (by have:=hf.2;omega) hR hV
 have CN:=fun W (hW:Below w.heap.size w W)=>pnodes10_any h v W (hT.below hW) hG hf
 rw [hN] at CN
 obtain ⟨a,cap,rfl,_⟩:=hT.some_at
 obtain ⟨n,hn⟩:∃ n,h.length=n:=⟨_,rfl⟩
 simp only [hn] at CF CA CN ⊢
 clear hT hG hf hR hV hN hn
 have H0:=F14.new w
 go_enter Tryz.func77,Tryz.ntmps77
 go_upto_region 2 with fail
 generalize (w.alloc (.cells #[.int .i64 0,.bool false,.slice none 0 0,.int .i64 0,.int .i64 0,.int .i64 0,.slice none 0 0] 28)).alloc (.cells #[.int .i64 1,.bool false,.slice none 0 0,.int .i64 0,.int .i64 0,.int .i64 0,.slice none 0 0] 28)=W0 at H0 ⊢
 go_wp2_with fail
 refine (CF _ H0.b).mono ?_
 rintro e1 w1 ⟨rfl,b1⟩
 have H1:=H0.below (b1.alloc b1.size (.cells #[.int .i64 0,.int .i64 0,.int .i64 0] 25))
 clear H0 b1
 go_upto_region 3 with fail
 generalize w1.alloc (.cells #[.int .i64 0,.int .i64 0,.int .i64 0] 25)=w2 at H1 ⊢
 go_wp2_with fail
 refine (CA _ H1.b).mono ?_
 rintro e3 w3 ⟨rfl,b3⟩
 have H3:=H1.below b3
 clear H1 b3
 go_wp2_with fail
 refine (steps14_no _).mono ?_
 rintro e4 w4 ⟨rfl,rfl⟩
 go_wp2_with fail
 refine (CN _ H3.b).mono ?_
 rintro e5 w5 ⟨vn,rfl,b5,o5⟩
 have H5:=H3.below b5
 have T5:=ints_own (l:=[1]) o5 (by simp)
 have CO:=order14_one vn w5 T5 (Shp.own o5)
 obtain ⟨an,cn,rfl⟩:=own_shape11 o5
 have hB5:=H5.b.size
 clear H3 b5 o5 T5
 go_wp2_with fail
 refine CO.mono ?_
 rintro e6 w6 ⟨vo,rfl,b6,o6⟩
 obtain ⟨oa,oc,rfl⟩:=own_shape11 o6
 have H6:=H5.below b6
 clear H5 b6 CO
 go_wp2_with fail
 refine (ring14_no _).mono ?_
 rintro e7 w7 ⟨rfl,b7⟩
 have H7:=H6.below b7
 have o7:=owns_below o6 b7
 clear H6 o6 b7
 have v1:=H7.v.cell 1 _ rfl
 have g1:=H7.v.frozen 1
 go_upto_region 10 with fail
 have H8:F14 w (w7.setCell ⟨w.heap.size+1,1,none⟩ (.bool true)) #[.int .i64 1,.bool true,.slice none 0 0,.int .i64 0,.int .i64 0,.int .i64 0,.slice none 0 0]:=⟨H7.r.other _ _ _ (by omega),H7.v.set 1 _,H7.b.setCell (p:=⟨w.heap.size+1,1,none⟩) (by simp) _⟩
 have o8:=owns_keep7 (g:=w.heap.size+1) (j:=1) o7 (.bool true) (block_not_row H7.v (by decide) o7)
 generalize w7.setCell ⟨w.heap.size+1,1,none⟩ (.bool true)=w8 at H8 o8 ⊢
 clear H7 o7 v1 g1
 go_wp2_with fail
 refine (flat14_no _).mono ?_
 rintro e9 w9 ⟨rfl,rfl⟩
 have v0:=H8.v.cell 0 _ rfl
 have g0:=H8.v.frozen 0
 have v1:=H8.v.cell 1 _ rfl
 have g1:=H8.v.frozen 1
 have v2:=H8.v.cell 2 _ rfl
 have g2:=H8.v.frozen 2
 have v3:=H8.v.cell 3 _ rfl
 have g3:=H8.v.frozen 3
 have v4:=H8.v.cell 4 _ rfl
 have g4:=H8.v.frozen 4
 have v5:=H8.v.cell 5 _ rfl
 have g5:=H8.v.frozen 5
 have v6:=H8.v.cell 6 _ rfl
 have g6:=H8.v.frozen 6
 have r0:=H8.r.cell 0 _ rfl
 have k0:=H8.r.frozen 0
 have r1:=H8.r.cell 1 _ rfl
 have k1:=H8.r.frozen 1
 have r2:=H8.r.cell 2 _ rfl
 have k2:=H8.r.frozen 2
 have r3:=H8.r.cell 3 _ rfl
 have k3:=H8.r.frozen 3
 have r4:=H8.r.cell 4 _ rfl
 have k4:=H8.r.frozen 4
 have r5:=H8.r.cell 5 _ rfl
 have k5:=H8.r.frozen 5
 have r6:=H8.r.cell 6 _ rfl
 have k6:=H8.r.frozen 6
 go_wp2_with fail
 generalize hW:World.setCell _ _ _=W
 have R8:=(H8.r.other (w.heap.size+1) 2 (.slice oa 1 oc) (by omega)).other (w.heap.size+1) 6 (.slice none 0 0) (by omega)
 have B8:=(H8.b.setCell (p:=⟨w.heap.size+1,2,none⟩) (by simp) (.slice oa 1 oc)).setCell (p:=⟨w.heap.size+1,6,none⟩) (by simp) (.slice none 0 0)
 have n1:=block_not_row H8.v (by decide) o8
 have P1:=owns_keep7 (g:=w.heap.size+1) (j:=6) (owns_keep7 (g:=w.heap.size+1) (j:=2) o8 (.slice oa 1 oc) n1) (.slice none 0 0) n1
 have RW:SBox W w.heap.size 28 #[.int .i64 1,.bool true,.slice oa 1 oc,.int .i64 0,.int .i64 0,.int .i64 0,.slice none 0 0]:=by rw [← hW];exact SBox.put7 R8 _ _ _ _ _ _ _
 have BZ:Below w.heap.size w W:=by rw [← hW];exact bel_put7 B8 (Nat.le_refl _) _ _ _ _ _ _ _
 have O1:W.ownsRow w.heap.size 3 1 (.slice oa 1 oc) 1 [.int .i64 1]:=by rw [← hW];exact owns_put7 (owns_base12 P1 hB5) (block_not_row R8 (by decide) P1) _ _ _ _ _ _ _
 exact bodyPost_ret (v:=.agg #[.int .i64 1,.bool true,.slice oa 1 oc,.int .i64 0,.int .i64 0,.int .i64 0,.slice none 0 0]) (results_row1 Tryz.results77 _ _ w.heap.size 28 _ (0,0) _ rfl RW Tryz.underlying28 rfl size_vd) rfl ⟨oa,oc,rfl,BZ,O1⟩
set_option maxHeartbeats 4000000 in
theorem judge14_one (h:List Ev) (v:Value) (w:World) (hT:IsEvs w v h) (hG:∀ x∈h,goodE x) (hf:fewH h) (hR:∀ q,q < h.length→(ev h q).1≠2) (hV:∀ key,(versL h key).length≤1) (hN:nodeL h=[1]) (hF:(formedL h).2=0) :
 Calls Tryz.prog 30 #[v,.int .i64 1] w fun e w'=>JdRes w e w' true:=by
 have R0:=SBox.new w 28 #[.int .i64 0,.bool false,.slice none 0 0,.int .i64 0,.int .i64 0,.int .i64 0,.slice none 0 0]
 have B0:=(Below.refl w.heap.size w).alloc (Nat.le_refl _) (.cells #[.int .i64 0,.bool false,.slice none 0 0,.int .i64 0,.int .i64 0,.int .i64 0,.slice none 0 0] 28)
 have CF:=fun W (hW:Below w.heap.size w W)=>pformed8_any h v W (hT.below hW) hG
 have CD:=fun W (hW:Below w.heap.size w W)=>found14_one h v W (hT.below hW) hG hf hR hV hN
 rw [hF] at CF
 obtain ⟨fp,hfp⟩:∃ fp,(formedL h).1=fp:=⟨_,rfl⟩
 rw [hfp] at CF
 obtain ⟨a,cap,rfl,_⟩:=hT.some_at
 obtain ⟨n,hn⟩:∃ n,h.length=n:=⟨_,rfl⟩
 simp only [hn] at CF CD ⊢
 clear hT hG hf hR hV hN hF hn hfp
 go_enter Tryz.func30,Tryz.ntmps30
 go_wp2_with fail
 refine (CF _ B0).mono ?_
 rintro e1 w1 ⟨rfl,b1⟩
 have B1:=bel_trans B0 b1
 have R1:=R0.below b1
 go_wp2_with fail
 refine (CD _ B1).mono ?_
 rintro e2 w2 ⟨oa,oc,rfl,b2,o2⟩
 have B2:=bel_trans B1 b2
 have R2:=R1.below b2
 have r0:=R2.cell 0 _ rfl
 have g0:=R2.frozen 0
 have r1:=R2.cell 1 _ rfl
 have g1:=R2.frozen 1
 have r2:=R2.cell 2 _ rfl
 have g2:=R2.frozen 2
 have r3:=R2.cell 3 _ rfl
 have g3:=R2.frozen 3
 have r4:=R2.cell 4 _ rfl
 have g4:=R2.frozen 4
 have r5:=R2.cell 5 _ rfl
 have g5:=R2.frozen 5
 have r6:=R2.cell 6 _ rfl
 have g6:=R2.frozen 6
 go_wp2_with fail
 generalize hW:World.setCell _ _ _=W
 have RW:SBox W w.heap.size 28 #[.int .i64 1,.bool true,.slice oa 1 oc,.int .i64 0,.int .i64 0,.int .i64 0,.slice none 0 0]:=by rw [← hW];exact SBox.put7 R2 _ _ _ _ _ _ _
 have BZ:Below w.heap.size w W:=by rw [← hW];exact bel_put7 B2 (Nat.le_refl _) _ _ _ _ _ _ _
 have O1:W.ownsRow w.heap.size 3 1 (.slice oa 1 oc) 1 [.int .i64 1]:=by rw [← hW];exact owns_put7 (owns_base12 o2 B1.size) (block_not_row R2 (by decide) o2) _ _ _ _ _ _ _
 exact bodyPost_ret (v:=.tuple #[.agg #[.int .i64 1,.bool true,.slice oa 1 oc,.int .i64 0,.int .i64 0,.int .i64 0,.slice none 0 0],.int .i64 0]) (results_row_tmp Tryz.results30 _ _ w.heap.size 28 _ (0,0) _ rfl RW Tryz.underlying28 rfl size_vd) rfl ⟨oa,oc,rfl,BZ,O1⟩
theorem sh14_node:nodeL sh14=[1]:=by decide
theorem sh14_form:(formedL sh14).2=0:=by decide
theorem sh14_read:∀ q,q < sh14.length→(ev sh14 q).1≠2:=by decide
theorem sh14_vers (key:List UInt8):(versL sh14 key).length≤1:=by
 have e0:verOf sh14 key 0=none:=by unfold verOf;rw [if_neg (by decide)]
 have e1:verOf sh14 key 1=none:=by unfold verOf;rw [if_neg (by decide)]
 show ([0,1,2].filterMap (verOf sh14 key)).length≤1
 rw [List.filterMap_cons,e0,List.filterMap_cons,e1,List.filterMap_cons]
 cases verOf sh14 key 2<;>simp
theorem sh14_few:fewH sh14:=by decide
theorem sh14_good:∀ x∈sh14,goodE x:=by
 intro x hx
 unfold sh14 at hx
 simp only [List.mem_cons,List.not_mem_nil,or_false] at hx
 rcases hx with rfl | rfl | rfl<;>(unfold goodE;simp)
theorem judge14_sh (v:Value) (w:World) (hT:IsEvs w v sh14):Calls Tryz.prog 30 #[v,.int .i64 1] w fun e w'=>JdRes w e w' true :=
 judge14_one sh14 v w hT sh14_good sh14_few sh14_read sh14_vers sh14_node sh14_form
end Go.Proofs.YtkkenfhlgpjmjaaGreatDoor
namespace Go.Proofs.YtkkenfhlgpjmjaaGreatDoor
set_option maxRecDepth 100000
open Go.RowKit
set_option linter.unusedVariables false
attribute [local go_sem] ba_size
abbrev crownF (bS bC:Nat):Value:=.func (.func 150) #[] #[.pointer (some ⟨bS,0,none⟩),.pointer (some ⟨bC,0,none⟩)]
theorem crown_pure (bS bC:Nat) (ss:List (List UInt8)) (v:Value) (W:World) (hT:IsTxt W v ss) (h4:ss.length≤4096) (hG:G W)
 (lS:bS < W.heap.size) (lC:bC < W.heap.size) (cS:W.cell? ⟨bS,0,none⟩=some (.func (.func 82) #[] #[])) (cC:W.cell? ⟨bC,0,none⟩=some (crownF bS bC)) :
 Calls Tryz.prog 150 #[v,.pointer (some ⟨bS,0,none⟩),.pointer (some ⟨bC,0,none⟩)] W fun e W'=>e=.returned (.string ⟨(crownL sumL ss).toArray⟩)∧Below W.heap.size W W':=by
 have h3:=hG.size
 refine (crown_sum (fun _ W'=>Below W.heap.size W W') W bS bC ?_ ?_ ?_ ss.length ss v [] W rfl h4 (by simp;omega) hT (Below.refl _ _)).mono ?_
 ·intro pre W' hB
  exact ⟨(hB.cell (p:=⟨bS,0,none⟩) lS).trans cS,(hB.cell (p:=⟨bC,0,none⟩) lC).trans cC,hB⟩
 ·intro pre W' hB
  exact hB.drew
 ·intro pre x W' hB _ hx
  refine (psumL_any x (by omega) W' (hG.below hB (by omega))).mono ?_
  rintro e w2 ⟨rfl,hb⟩
  exact ⟨rfl,bel_trans hB hb⟩
 ·rintro e W' ⟨rfl,hB⟩
  exact ⟨rfl,hB⟩
def CrownAt (w:World) (f:Value) (e:Ending) (w':World):Prop :=
 e=.returned (crownF w.heap.size (w.heap.size+1))∧w'.heap.size=w.heap.size+2∧w'.cell? ⟨w.heap.size,0,none⟩=some f∧w'.cell? ⟨w.heap.size+1,0,none⟩=some (crownF w.heap.size (w.heap.size+1))∧Below w.heap.size w w'
set_option maxHeartbeats 400000 in
theorem crownBy_any (g:Nat) (cs:Array Value) (w:World) :
 Calls Tryz.prog 81 #[.func (.func g) #[] cs] w fun e w'=>CrownAt w (.func (.func g) #[] cs) e w':=by
 go_enter Tryz.func81,Tryz.ntmps81
 go_wp2
 go_ret
 refine ⟨rfl,?_,?_,?_,?_⟩
 ·simp
 ·simp
 ·simp
 ·exact ((Below.refl _ w).alloc (Nat.le_refl _) _).alloc (by simp) _
set_option maxHeartbeats 400000 in
theorem proot_any (ss:List (List UInt8)) (v:Value) (w:World) (hG:G w) (hT:IsTxt w v ss) (hb:ss.length≤4096) :
 Calls Tryz.prog 33 #[v] w fun e w'=>e=.returned (.tuple #[.string ⟨(rootL sumL ss).toArray⟩,.int .i64 0])∧Below w.heap.size w w':=by
 have hg3:=hG.size
 have hT0:=hT
 have lc:=crownL_le32 sumL sumL_len32 ss
 have HE:Hid (rootL sumL ss=sumL (rootI ss.length (crownL sumL ss))):=(rfl:_=_)
 obtain ⟨a,cap,rfl,h1,h2,h3⟩:=hT.len
 have hC:=fun W hB lS lC cS cC=>crown_pure w.heap.size (w.heap.size+1) ss _ W (hT0.below hB) hb (hG.below hB (by omega)) lS lC cS cC
 obtain ⟨c,hc⟩:∃ c,crownL sumL ss=c:=⟨_,rfl⟩
 rw [hc] at hC lc HE
 have hR:=fun w1=>prootIn_any ss.length (by omega) c lc w1
 have hl:(rootI ss.length c).length≤50:=by
  unfold rootI
  have:=Lm.numL_length ss.length
  have:=Lm.cnt_le ss.length
  simp;omega
 obtain ⟨R,hRR⟩:∃ R,rootI ss.length c=R:=⟨_,rfl⟩
 rw [hRR] at hR hl HE
 have hS:=fun w1 h=>psumL_any R (by omega) w1 h
 have i0:¬ (4096:Int) < (ss.length:Int):=by omega
 clear hRR hc hT hT0
 obtain ⟨n,hn⟩:∃ n,ss.length=n:=⟨_,rfl⟩
 simp only [hn] at *
 clear hn
 go_enter Tryz.func33,Tryz.ntmps33
 go_wp2_with fail
 refine (crownBy_any _ _ w).mono ?_
 rintro e w1 ⟨rfl,hs1,cS,cC,hb1⟩
 go_wp2_with fail
 refine (hC w1 hb1 (by omega) (by omega) cS cC).mono ?_
 rintro e w2 ⟨rfl,hb2⟩
 have hbw2:=bel_trans hb1 hb2
 go_wp2_with fail
 refine (hR w2).mono ?_
 rintro e w3 ⟨rfl,hb3⟩
 have hbw3:=bel_trans hbw2 hb3
 go_wp2_with fail
 refine (hS w3 (hG.below hbw3 (by omega))).mono ?_
 rintro e w4 ⟨rfl,hb4⟩
 go_wp2_with fail
 go_ret2
 exact ⟨by rw [HE.out];rfl,bel_trans hbw3 hb4⟩
open Go.RowKit Go.Maps
def PM (p:PS):Int→Option Value:=fun n=>if p n=true then some (.agg #[]) else none
theorem PM_add {h:List Ev} {p:PS} {i:Int} (hi:hasP h i=true):updV (PM p) i (.agg #[])=PM (addP h p i):=by
 funext n
 unfold updV PM addP
 by_cases e:n=i
 ·subst e;simp [hi]
 ·rw [if_neg e,decide_eq_false (fun x:i=n=>e x.symm),Bool.and_false,Bool.or_false]
theorem PM_same {h:List Ev} {p:PS} {i:Int} (hi:¬ hasP h i=true):addP h p i=p:=by
 funext n
 unfold addP
 cases hx:hasP h i with
 | true=>exact absurd hx hi
 | false=>simp
def NRes (w:World) (mb c:Nat) (p:PS) (e:Ending) (w':World):Prop:=e=.returned (.tuple #[])∧VMap w' mb c (PM p)∧w.grownBy w' (some mb)
theorem NRes.from {w W w':World} {mb c:Nat} {p:PS} {e:Ending} (h:NRes W mb c p e w') (hb:Below w.heap.size w W):NRes w mb c p e w':=⟨h.1,h.2.1,(grown_below8 (some mb) hb).trans h.2.2⟩
theorem phas14 (h:List Ev) (a:Option Addr) (cap mb:Nat) (i:Int) (w:World):Calls Tryz.prog 168 #[.agg #[.slice a h.length cap,.map (some mb)],.int .i64 i] w fun e w'=>e=.returned (.bool (hasP h i))∧Below w.heap.size w w':=by
 have al:Below w.heap.size w (w.alloc (.cells #[.slice a h.length cap,.map (some mb)] 92)):=(Below.refl _ w).alloc (Nat.le_refl _) _
 have X0:=SBox.new w 92 #[.slice a h.length cap,.map (some mb)]
 have c0:(w.alloc (.cells #[.slice a h.length cap,.map (some mb)] 92)).cell? ⟨w.heap.size,0,none⟩=some (.slice a h.length cap):=X0.cell 0 _ rfl
 unfold hasP
 by_cases h1:0≤i
 ·by_cases h2:i < (h.length:Int)
  ·rw [decide_eq_true (show 0≤i∧i < (h.length:Int) from ⟨h1,h2⟩)]
   go_enter Tryz.func168,Tryz.ntmps168
   go_wp2_with fail
   go_ret
   exact ⟨rfl,al⟩
  ·rw [decide_eq_false (show ¬ (0≤i∧i < (h.length:Int)) from fun x=>h2 x.2)]
   go_enter Tryz.func168,Tryz.ntmps168
   go_wp2_with fail
   go_ret
   exact ⟨rfl,al⟩
 ·rw [decide_eq_false (show ¬ (0≤i∧i < (h.length:Int)) from fun x=>h1 x.1)]
  go_enter Tryz.func168,Tryz.ntmps168
  go_wp2_with fail
  go_ret
  exact ⟨rfl,al⟩
set_option maxHeartbeats 1000000 in
theorem pput14 (h:List Ev) (a:Option Addr) (cap:Nat) (mb c:Nat) (p:PS) (i:Int) (w:World) (hM:VMap w mb c (PM p)) (hc:c≤1000000000) (hl:h.length≤100000) :
 Calls Tryz.prog 98 #[.agg #[.slice a h.length cap,.map (some mb)],.int .i64 i] w fun e w'=>NRes w mb (c+1) (addP h p i) e w':=by
 have al:Below w.heap.size w (w.alloc (.cells #[.slice a h.length cap,.map (some mb)] 92)):=(Below.refl _ w).alloc (Nat.le_refl _) _
 have X0:=SBox.new w 92 #[.slice a h.length cap,.map (some mb)]
 have c0:(w.alloc (.cells #[.slice a h.length cap,.map (some mb)] 92)).cell? ⟨w.heap.size,0,none⟩=some (.slice a h.length cap):=X0.cell 0 _ rfl
 have c1:(w.alloc (.cells #[.slice a h.length cap,.map (some mb)] 92)).cell? ⟨w.heap.size,1,none⟩=some (.map (some mb)):=X0.cell 1 _ rfl
 by_cases hi:hasP h i=true
 ·have HI:Hid (hasP h i=true):=hi
  have hr:=(hasP_iff h i).1 hi
  have hI:I64 i:=⟨by omega,by omega⟩
  have D:=fun W=>phas14 h a cap mb i W
  simp only [hi] at D
  clear hi
  go_enter Tryz.func98,Tryz.ntmps98
  go_wp2_with fail
  refine (D _).mono ?_
  rintro e w1 ⟨rfl,b1⟩
  have X1:=X0.below b1
  have d1:w1.cell? ⟨w.heap.size,1,none⟩=some (.map (some mb)):=X1.cell 1 _ rfl
  have M1:=(hM.bel al hM.lt).bel b1 (Nat.lt_of_lt_of_le hM.lt al.size)
  have B1:=bel_trans al b1
  clear c0 c1 D X0 b1
  go_wp2_with (at_mapUpdate;refine wpl_store _ rfl _ _ _ 90 rfl 167 Tryz.underlying90 mb c _ rfl M1 (by omega) i hI rfl (.agg #[]) rfl ?_;intro w2 M2 g2)
  rw [PM_add HI.out] at M2
  go_wp2_with fail
  go_end0
  exact ⟨rfl,M2,(grown_below8 (some mb) B1).trans g2⟩
 ·have hf:hasP h i=false:=by simpa using hi
  rw [PM_same hi]
  have D:=fun W=>phas14 h a cap mb i W
  simp only [hf] at D
  go_enter Tryz.func98,Tryz.ntmps98
  go_wp2_with fail
  refine (D _).mono ?_
  rintro e w1 ⟨rfl,b1⟩
  have M1:=(hM.bel al hM.lt).bel b1 (Nat.lt_of_lt_of_le hM.lt al.size)
  have B1:=bel_trans al b1
  go_wp2_with fail
  go_end0
  exact ⟨rfl,M1.mono (by omega),grown_below8 (some mb) B1⟩
set_option maxHeartbeats 1000000 in
theorem pend14 (h:List Ev) (a:Option Addr) (cap:Nat) (mb c:Nat) (p:PS) (t:Int) (w:World) (hT:IsEvs w (.slice a h.length cap) h) (hM:VMap w mb c (PM p)) (hc:c≤1000000000) (hl:h.length≤100000) :
 Calls Tryz.prog 99 #[.agg #[.slice a h.length cap,.map (some mb)],.int .i64 t] w fun e w'=>NRes w mb (c+1) (endP h p t) e w':=by
 have al:Below w.heap.size w (w.alloc (.cells #[.slice a h.length cap,.map (some mb)] 92)):=(Below.refl _ w).alloc (Nat.le_refl _) _
 have X0:=SBox.new w 92 #[.slice a h.length cap,.map (some mb)]
 have c0:(w.alloc (.cells #[.slice a h.length cap,.map (some mb)] 92)).cell? ⟨w.heap.size,0,none⟩=some (.slice a h.length cap):=X0.cell 0 _ rfl
 have D:=pfind8_any h (.slice a h.length cap) (w.alloc (.cells #[.slice a h.length cap,.map (some mb)] 92)) t (hT.below al)
 unfold endP
 unfold findP at D
 cases hf:findL h t with
 | none =>
   rw [hf] at D
   simp only at D ⊢
   obtain ⟨⟨y0,y1,y2,y3⟩,hy⟩:∃ y:Lf,(0,0,0,false)=y:=⟨_,rfl⟩
   go_enter Tryz.func99,Tryz.ntmps99
   go_wp2_with fail
   refine D.mono ?_
   rintro e w1 ⟨rfl,b1⟩
   have M1:=(hM.bel al hM.lt).bel b1 (Nat.lt_of_lt_of_le hM.lt al.size)
   have B1:=bel_trans al b1
   go_wp2_with fail
   go_end0
   exact ⟨rfl,(M1.bel ((Below.refl _ w1).alloc (Nat.le_refl _) _) M1.lt).mono (by omega),grown_below8 (some mb) (B1.alloc B1.size _)⟩
 | some y =>
   obtain ⟨y0,y1,y2,y3⟩:=y
   rw [hf] at D
   simp only at D ⊢
   go_enter Tryz.func99,Tryz.ntmps99
   go_wp2_with fail
   refine D.mono ?_
   rintro e w1 ⟨rfl,b1⟩
   have X1:=X0.below b1
   have M1:=(hM.bel al hM.lt).bel b1 (Nat.lt_of_lt_of_le hM.lt al.size)
   have B1:=bel_trans al b1
   have X2:=X1.alloc (.cells #[.int .i64 y0,.int .i64 (y1:Int),.int .i64 (y2:Int),.bool y3] 73)
   have A2:Below w1.heap.size w1 (w1.alloc (.cells #[.int .i64 y0,.int .i64 (y1:Int),.int .i64 (y2:Int),.bool y3] 73)):=(Below.refl _ w1).alloc (Nat.le_refl _) _
   have M2:=M1.bel A2 M1.lt
   have B2:=bel_trans B1 A2
   have e0:(w1.alloc (.cells #[.int .i64 y0,.int .i64 (y1:Int),.int .i64 (y2:Int),.bool y3] 73)).cell? ⟨w.heap.size,0,none⟩=some (.slice a h.length cap):=X2.cell 0 _ rfl
   have e1:(w1.alloc (.cells #[.int .i64 y0,.int .i64 (y1:Int),.int .i64 (y2:Int),.bool y3] 73)).cell? ⟨w.heap.size,1,none⟩=some (.map (some mb)):=X2.cell 1 _ rfl
   clear X0 X1 c0 M1 D
   go_wp2_with fail
   refine (pput14 h a cap mb c p (y2:Int) _ M2 hc hl).mono ?_
   intro e w3 h3
   obtain ⟨rfl,h4⟩:=h3
   go_wp2_with fail
   go_end0
   exact NRes.from ⟨rfl,h4⟩ B2
theorem NRes.bel {w0 w w':World} {mb c:Nat} {p:PS} {e:Ending} (h:NRes w mb c p e w') (h0:Below w0.heap.size w0 w) (hmb:w0.heap.size≤mb):Below w0.heap.size w0 w':=h0.grown h.2.2 h0.size (fun k e=>by cases e;exact hmb)
theorem hmx14:Tryz.prog.follows .mixedOrders=true:=by kernel_rfl
set_option maxHeartbeats 1000000 in
theorem pended14 (h:List Ev) (a:Option Addr) (cap:Nat) (mb c:Nat) (p:PS) (i:Int) (w0 w:World) (hT:IsEvs w0 (.slice a h.length cap) h) (h0:Below w0.heap.size w0 w) (hmb:w0.heap.size≤mb) (hM:VMap w mb c (PM p)) (hc:c≤100000000) (hl:h.length≤100000) :
 Calls Tryz.prog 96 #[.agg #[.slice a h.length cap,.map (some mb)],.int .i64 i] w fun e w'=>NRes w mb (c+2) (endedP h p i) e w':=by
 have hmx:=hmx14
 have al:Below w.heap.size w (w.alloc (.cells #[.slice a h.length cap,.map (some mb)] 92)):=(Below.refl _ w).alloc (Nat.le_refl _) _
 have X0:=SBox.new w 92 #[.slice a h.length cap,.map (some mb)]
 have c0:(w.alloc (.cells #[.slice a h.length cap,.map (some mb)] 92)).cell? ⟨w.heap.size,0,none⟩=some (.slice a h.length cap):=X0.cell 0 _ rfl
 have c1:(w.alloc (.cells #[.slice a h.length cap,.map (some mb)] 92)).cell? ⟨w.heap.size,1,none⟩=some (.map (some mb)):=X0.cell 1 _ rfl
 unfold endedP
 by_cases hi:hasP h i=true
 ·rw [if_pos hi]
  have hr:=(hasP_iff h i).1 hi
  have D:=fun W=>phas14 h a cap mb i W
  simp only [hi] at D
  obtain ⟨k,rfl⟩:∃ k:Nat,i=(k:Int):=⟨i.toNat,by omega⟩
  have hk:k < h.length:=by omega
  rw [Int.toNat_natCast]
  have HRD:=hT.reads
  obtain ⟨a',cap',hv,r1,r2,r3,HC⟩:=HRD
  obtain ⟨rfl,rfl⟩:a=a'∧cap=cap':=by simpa using hv
  obtain ⟨bb,off,rfl,HQ⟩:=HC.out (by omega)
  clear hi hv HC
  go_enter Tryz.func96,Tryz.ntmps96
  go_wp2_with fail
  refine (D _).mono ?_
  rintro e w1 ⟨rfl,b1⟩
  have X1:=X0.below b1
  have M1:=(hM.bel al hM.lt).bel b1 (Nat.lt_of_lt_of_le hM.lt al.size)
  have B1:=bel_trans al b1
  have d0:w1.cell? ⟨w.heap.size,0,none⟩=some (.slice (some ⟨bb,off,none⟩) h.length cap):=X1.cell 0 _ rfl
  have d1:w1.cell? ⟨w.heap.size,1,none⟩=some (.map (some mb)):=X1.cell 1 _ rfl
  clear c0 c1 D X0 b1 al
  go_wp2_with fail
  refine (pput14 h _ cap mb c p (k:Int) _ M1 (by omega) hl).mono ?_
  intro e w2 h2
  have h02:=h0.trans (B1.mono h0.size)
  have h03:=h2.bel h02 hmb
  obtain ⟨rfl,M2,g2⟩:=h2
  have X2:=X1.kept14 g2 (by have:=hM.lt;omega)
  obtain ⟨q0,q1,q2,q3⟩:=HQ.out k hk w2 h03
  have e0:w2.cell? ⟨w.heap.size,0,none⟩=some (.slice (some ⟨bb,off,none⟩) h.length cap):=X2.cell 0 _ rfl
  have e1:w2.cell? ⟨w.heap.size,1,none⟩=some (.map (some mb)):=X2.cell 1 _ rfl
  have G2:=(grown_below8 (some mb) B1).trans g2
  clear d0 d1 q0 q2 q3 X1 X2 M1 g2
  obtain ⟨t,ht⟩:∃ t,tx h k=t:=⟨_,rfl⟩
  have HT2:Hid (tx h k=t):=ht
  have ht2:(ev h k).2.1=t:=ht
  rw [ht2] at q1
  clear ht ht2
  go_wp2_with fail
  go_still_tail 7,hmx
  change wpList _ _ _ _ _ (World.drew w2)
  have A3:Below w2.heap.size w2 w2.drew:=(Below.refl _ _).drew
  go_wp2_with fail
  refine (pend14 h _ cap mb (c+1) (addP h p (k:Int)) t _ ((hT.below h03).below A3) (M2.bel A3 M2.lt) (by omega) hl).mono ?_
  intro e w5 h5
  obtain ⟨rfl,M5,g5⟩:=h5
  go_wp2_with fail
  go_end0
  exact ⟨rfl,by rw [HT2.out];exact M5,G2.trans ((grown_below8 (some mb) A3).trans g5)⟩
 ·rw [if_neg hi]
  have hf:hasP h i=false:=by simpa using hi
  have D:=fun W=>phas14 h a cap mb i W
  simp only [hf] at D
  go_enter Tryz.func96,Tryz.ntmps96
  go_wp2_with fail
  refine (D _).mono ?_
  rintro e w1 ⟨rfl,b1⟩
  have M1:=(hM.bel al hM.lt).bel b1 (Nat.lt_of_lt_of_le hM.lt al.size)
  have B1:=bel_trans al b1
  go_wp2_with fail
  go_end0
  exact ⟨rfl,M1.mono (by omega),grown_below8 (some mb) B1⟩
theorem wrT_yes {h:List Ev} {k:Nat} (hk:k < h.length) (hv:(ev h k).2.2.2≠[]):wrT h (k:Int)=true:=by
 unfold wrT
 rw [decide_eq_true_iff,Int.toNat_natCast]
 exact ⟨by omega,by omega,hv⟩
theorem wrT_no {h:List Ev} {i:Int} (hv:¬ (0≤i∧i < (h.length:Int)∧(ev h i.toNat).2.2.2≠[])):¬ wrT h i=true:=by
 unfold wrT
 rw [decide_eq_true_iff]
 exact hv
set_option maxHeartbeats 1000000 in
theorem pwriter14 (h:List Ev) (a:Option Addr) (cap:Nat) (mb c:Nat) (p:PS) (i:Int) (w0 w:World) (hT:IsEvs w0 (.slice a h.length cap) h) (h0:Below w0.heap.size w0 w) (hmb:w0.heap.size≤mb) (hM:VMap w mb c (PM p)) (hc:c≤100000000) (hl:h.length≤100000) :
 Calls Tryz.prog 97 #[.agg #[.slice a h.length cap,.map (some mb)],.int .i64 i] w fun e w'=>NRes w mb (c+2) (writerP h p i) e w':=by
 have hmx:=hmx14
 have al:Below w.heap.size w (w.alloc (.cells #[.slice a h.length cap,.map (some mb)] 92)):=(Below.refl _ w).alloc (Nat.le_refl _) _
 have X0:=SBox.new w 92 #[.slice a h.length cap,.map (some mb)]
 have c0:(w.alloc (.cells #[.slice a h.length cap,.map (some mb)] 92)).cell? ⟨w.heap.size,0,none⟩=some (.slice a h.length cap):=X0.cell 0 _ rfl
 have c1:(w.alloc (.cells #[.slice a h.length cap,.map (some mb)] 92)).cell? ⟨w.heap.size,1,none⟩=some (.map (some mb)):=X0.cell 1 _ rfl
 unfold writerP
 by_cases hi:hasP h i=true
 ·have hr:=(hasP_iff h i).1 hi
  have D:=fun W=>phas14 h a cap mb i W
  simp only [hi] at D
  obtain ⟨k,rfl⟩:∃ k:Nat,i=(k:Int):=⟨i.toNat,by omega⟩
  have hk:k < h.length:=by omega
  rw [Int.toNat_natCast]
  have HRD:=hT.reads
  obtain ⟨a',cap',hv,r1,r2,r3,HC⟩:=HRD
  obtain ⟨rfl,rfl⟩:a=a'∧cap=cap':=by simpa using hv
  obtain ⟨bb,off,rfl,HQ⟩:=HC.out (by omega)
  obtain ⟨⟨x0,x1,x2,x3⟩,hx⟩:∃ x,ev h k=x:=⟨_,rfl⟩
  have HV:Hid (ev h k=(x0,x1,x2,x3)):=hx
  clear hi hv HC hx
  by_cases hn:x3=[]
  ·have hw:¬ wrT h (k:Int)=true:=wrT_no (by rw [Int.toNat_natCast,HV.out];exact fun h9=>h9.2.2 hn)
   have e3:x3.isEmpty=true:=by subst hn;rfl
   rw [if_neg hw]
   clear hw
   go_enter Tryz.func97,Tryz.ntmps97
   go_wp2_with fail
   refine (D _).mono ?_
   rintro e w1 ⟨rfl,b1⟩
   have X1:=X0.below b1
   have M1:=(hM.bel al hM.lt).bel b1 (Nat.lt_of_lt_of_le hM.lt al.size)
   have B1:=bel_trans al b1
   have d0:w1.cell? ⟨w.heap.size,0,none⟩=some (.slice (some ⟨bb,off,none⟩) h.length cap):=X1.cell 0 _ rfl
   obtain ⟨q0,q1,q2,q3⟩:=HQ.out k hk w1 (h0.trans (B1.mono h0.size))
   rw [HV.out] at q3
   simp only at q3
   clear c0 c1 D X0 b1 al q0 q1 q2 hn
   go_wp2_with fail
   go_end0
   exact ⟨rfl,M1.mono (by omega),grown_below8 (some mb) B1⟩
  ·have hw:wrT h (k:Int)=true:=wrT_yes hk (by rw [HV.out];exact hn)
   have e3:x3.isEmpty=false:=by cases x3 with | nil=>exact absurd rfl hn | cons y z=>rfl
   rw [if_pos hw,HV.out]
   simp only
   obtain ⟨r,hrr⟩:∃ r,oI (writerL h x2 x3)=r:=⟨_,rfl⟩
   have DW:=fun W hW=>pwriter8_any h (.slice (some ⟨bb,off,none⟩) h.length cap) W (hT.below (w':=W) hW) x2 x3
   rw [hrr] at DW ⊢
   clear hw hn
   go_enter Tryz.func97,Tryz.ntmps97
   go_wp2_with fail
   refine (D _).mono ?_
   rintro e w1 ⟨rfl,b1⟩
   have X1:=X0.below b1
   have M1:=(hM.bel al hM.lt).bel b1 (Nat.lt_of_lt_of_le hM.lt al.size)
   have B1:=bel_trans al b1
   have h01:=h0.trans (B1.mono h0.size)
   have d0:w1.cell? ⟨w.heap.size,0,none⟩=some (.slice (some ⟨bb,off,none⟩) h.length cap):=X1.cell 0 _ rfl
   have d1:w1.cell? ⟨w.heap.size,1,none⟩=some (.map (some mb)):=X1.cell 1 _ rfl
   obtain ⟨q0,q1,q2,q3⟩:=HQ.out k hk w1 h01
   rw [HV.out] at q2 q3
   simp only at q2 q3
   clear c0 c1 D X0 b1 al q0 q1
   go_wp2_with fail
   refine wp_region_any (by kernel_rfl) ?_
   change wpAny _ _ _ _ _ _ _ (World.drew w1)
   have A2:Below w1.heap.size w1 w1.drew:=(Below.refl _ _).drew
   refine any_of_C (C:=fun V=>V.cell? ⟨w.heap.size,0,none⟩=some (.slice (some ⟨bb,off,none⟩) h.length cap)∧V.cell? ⟨w.heap.size,1,none⟩=some (.map (some mb))∧V.cell? ⟨bb,off+k*4+2,none⟩=some (.string ⟨x2.toArray⟩)∧V.cell? ⟨bb,off+k*4+3,none⟩=some (.string ⟨x3.toArray⟩)) 16 _ _ _ _ ?_
   refine takeCC [16] (i:=0) (v:=.agg #[.slice (some ⟨bb,off,none⟩) h.length cap,.map (some mb)]) rfl (by kernel_rfl) (by kernel_rfl) (by kernel_rfl) (by kernel_rfl) (by kernel_rfl) (by kernel_rfl) (fun _ _ _ h=>h) (Or.inl ⟨by kernel_rfl,fun V hV=>by obtain ⟨t0,t1,t2,t3⟩:=hV;go_simp⟩) ?_
   refine takeCC [2,15,16] (i:=1) (v:=.pointer (some ⟨w.heap.size,0,none⟩)) rfl (by kernel_rfl) (by kernel_rfl) (by kernel_rfl) (by kernel_rfl) (by kernel_rfl) (by kernel_rfl) (fun _ _ _ h=>h) (Or.inl ⟨by kernel_rfl,fun V hV=>by obtain ⟨t0,t1,t2,t3⟩:=hV;go_simp⟩) ?_
   refine takeCC [15,16] (i:=2) (v:=.slice (some ⟨bb,off,none⟩) h.length cap) rfl (by kernel_rfl) (by kernel_rfl) (by kernel_rfl) (by kernel_rfl) (by kernel_rfl) (by kernel_rfl) (fun _ _ _ h=>h) (Or.inl ⟨by kernel_rfl,fun V hV=>by obtain ⟨t0,t1,t2,t3⟩:=hV;go_simp⟩) ?_
   refine takeCC [4,6,7,8,15,16] (i:=3) (v:=.pointer (some ⟨w.heap.size,0,none⟩)) rfl (by kernel_rfl) (by kernel_rfl) (by kernel_rfl) (by kernel_rfl) (by kernel_rfl) (by kernel_rfl) (fun _ _ _ h=>h) (Or.inl ⟨by kernel_rfl,fun V hV=>by obtain ⟨t0,t1,t2,t3⟩:=hV;go_simp⟩) ?_
   refine takeCC [6,7,8,15,16] (i:=4) (v:=.slice (some ⟨bb,off,none⟩) h.length cap) rfl (by kernel_rfl) (by kernel_rfl) (by kernel_rfl) (by kernel_rfl) (by kernel_rfl) (by kernel_rfl) (fun _ _ _ h=>h) (Or.inl ⟨by kernel_rfl,fun V hV=>by obtain ⟨t0,t1,t2,t3⟩:=hV;go_simp⟩) ?_
   refine takeCC [6,7,8,15,16] (i:=5) (v:=.int .i64 (k:Int)) rfl (by kernel_rfl) (by kernel_rfl) (by kernel_rfl) (by kernel_rfl) (by kernel_rfl) (by kernel_rfl) (fun _ _ _ h=>h) (Or.inl ⟨by kernel_rfl,fun V hV=>by obtain ⟨t0,t1,t2,t3⟩:=hV;go_simp⟩) ?_
   refine takeCC [7,8,15,16] (i:=6) (v:=.pointer (some ⟨bb,off+k*4,none⟩)) rfl (by kernel_rfl) (by kernel_rfl) (by kernel_rfl) (by kernel_rfl) (by kernel_rfl) (by kernel_rfl) (fun _ _ _ h=>h) (Or.inl ⟨by kernel_rfl,fun V hV=>by obtain ⟨t0,t1,t2,t3⟩:=hV;go_simp⟩) ?_
   refine takeCC [8,15,16] (i:=7) (v:=.pointer (some ⟨bb,off+k*4+2,none⟩)) rfl (by kernel_rfl) (by kernel_rfl) (by kernel_rfl) (by kernel_rfl) (by kernel_rfl) (by kernel_rfl) (fun _ _ _ h=>h) (Or.inl ⟨by kernel_rfl,fun V hV=>by obtain ⟨t0,t1,t2,t3⟩:=hV;go_simp⟩) ?_
   refine takeCC [15,16] (i:=8) (v:=.string ⟨x2.toArray⟩) rfl (by kernel_rfl) (by kernel_rfl) (by kernel_rfl) (by kernel_rfl) (by kernel_rfl) (by kernel_rfl) (fun _ _ _ h=>h) (Or.inl ⟨by kernel_rfl,fun V hV=>by obtain ⟨t0,t1,t2,t3⟩:=hV;go_simp⟩) ?_
   refine takeCC [10,12,13,14,15,16] (i:=9) (v:=.pointer (some ⟨w.heap.size,0,none⟩)) rfl (by kernel_rfl) (by kernel_rfl) (by kernel_rfl) (by kernel_rfl) (by kernel_rfl) (by kernel_rfl) (fun _ _ _ h=>h) (Or.inl ⟨by kernel_rfl,fun V hV=>by obtain ⟨t0,t1,t2,t3⟩:=hV;go_simp⟩) ?_
   refine takeCC [12,13,14,15,16] (i:=10) (v:=.slice (some ⟨bb,off,none⟩) h.length cap) rfl (by kernel_rfl) (by kernel_rfl) (by kernel_rfl) (by kernel_rfl) (by kernel_rfl) (by kernel_rfl) (fun _ _ _ h=>h) (Or.inl ⟨by kernel_rfl,fun V hV=>by obtain ⟨t0,t1,t2,t3⟩:=hV;go_simp⟩) ?_
   refine takeCC [12,13,14,15,16] (i:=11) (v:=.int .i64 (k:Int)) rfl (by kernel_rfl) (by kernel_rfl) (by kernel_rfl) (by kernel_rfl) (by kernel_rfl) (by kernel_rfl) (fun _ _ _ h=>h) (Or.inl ⟨by kernel_rfl,fun V hV=>by obtain ⟨t0,t1,t2,t3⟩:=hV;go_simp⟩) ?_
   refine takeCC [13,14,15,16] (i:=12) (v:=.pointer (some ⟨bb,off+k*4,none⟩)) rfl (by kernel_rfl) (by kernel_rfl) (by kernel_rfl) (by kernel_rfl) (by kernel_rfl) (by kernel_rfl) (fun _ _ _ h=>h) (Or.inl ⟨by kernel_rfl,fun V hV=>by obtain ⟨t0,t1,t2,t3⟩:=hV;go_simp⟩) ?_
   refine takeCC [14,15,16] (i:=13) (v:=.pointer (some ⟨bb,off+k*4+3,none⟩)) rfl (by kernel_rfl) (by kernel_rfl) (by kernel_rfl) (by kernel_rfl) (by kernel_rfl) (by kernel_rfl) (fun _ _ _ h=>h) (Or.inl ⟨by kernel_rfl,fun V hV=>by obtain ⟨t0,t1,t2,t3⟩:=hV;go_simp⟩) ?_
   refine takeCC [15,16] (i:=14) (v:=.string ⟨x3.toArray⟩) rfl (by kernel_rfl) (by kernel_rfl) (by kernel_rfl) (by kernel_rfl) (by kernel_rfl) (by kernel_rfl) (fun _ _ _ h=>h) (Or.inl ⟨by kernel_rfl,fun V hV=>by obtain ⟨t0,t1,t2,t3⟩:=hV;go_simp⟩) ?_
   refine consC (i:=15) (by kernel_rfl) (by kernel_rfl) ⟨d0,d1,q2,q3⟩ rfl (fun K hK=>?_)
   go_wp2_with fail
   refine (DW _ (bel_trans h01 A2)).mono ?_
   rintro e w3 ⟨rfl,b3⟩
   have A3:=bel_trans A2 b3
   have M3:=M1.bel A3 M1.lt
   have u0:=cell_bel A3 d0
   have u1:=cell_bel A3 d1
   have u2:=cell_bel A3 q2
   have u3:=cell_bel A3 q3
   clear d0 d1 q2 q3 X1
   go_wp2_with fail
   refine lastC (by kernel_rfl) (by kernel_rfl) ⟨u0,u1,u2,u3⟩ (of_decide_eq_true (by kernel_rfl)) ?_
   refine any_seqI [16] [_] _ _ _ rfl (by kernel_rfl) ?_
   go_wp2_with fail
   refine (pended14 h _ cap mb c p r w0 _ hT (bel_trans h01 A3) hmb M3 hc hl).mono ?_
   intro e w5 h5
   obtain ⟨rfl,M5,g5⟩:=h5
   go_wp2_with fail
   go_end0
   exact ⟨rfl,M5,(grown_below8 (some mb) (bel_trans B1 A3)).trans g5⟩
 ·have hw:¬ wrT h i=true:=wrT_no (fun h9=>hi ((hasP_iff h i).2 ⟨h9.1,h9.2.1⟩))
  rw [if_neg hw]
  have hf:hasP h i=false:=by simpa using hi
  have D:=fun W=>phas14 h a cap mb i W
  simp only [hf] at D
  go_enter Tryz.func97,Tryz.ntmps97
  go_wp2_with fail
  refine (D _).mono ?_
  rintro e w1 ⟨rfl,b1⟩
  have M1:=(hM.bel al hM.lt).bel b1 (Nat.lt_of_lt_of_le hM.lt al.size)
  have B1:=bel_trans al b1
  go_wp2_with fail
  go_end0
  exact ⟨rfl,M1.mono (by omega),grown_below8 (some mb) B1⟩
set_option maxHeartbeats 2000000 in
theorem pbad14 (h:List Ev) (a:Option Addr) (cap:Nat) (mb c:Nat) (p:PS) (k i j:Int) (w0 w:World) (hT:IsEvs w0 (.slice a h.length cap) h) (h0:Below w0.heap.size w0 w) (hmb:w0.heap.size≤mb) (hM:VMap w mb c (PM p)) (hc:c≤10000000) (hl:h.length≤100000) :
 Calls Tryz.prog 40 #[.agg #[.slice a h.length cap,.map (some mb)],.agg #[.int .i64 k,.int .i64 i,.int .i64 j]] w fun e w'=>NRes w mb (c+6) (badP h p (k,i,j)) e w':=by
 have al:Below w.heap.size w ((w.alloc (.cells #[.slice a h.length cap,.map (some mb)] 92)).alloc (.cells #[.int .i64 k,.int .i64 i,.int .i64 j] 25)):=((Below.refl _ w).alloc (Nat.le_refl _) _).alloc (by simp) _
 have X0:=(SBox.new w 92 #[.slice a h.length cap,.map (some mb)]).alloc (.cells #[.int .i64 k,.int .i64 i,.int .i64 j] 25)
 have Y0:=SBox.new (w.alloc (.cells #[.slice a h.length cap,.map (some mb)] 92)) 25 #[.int .i64 k,.int .i64 i,.int .i64 j]
 rw [World.size_alloc] at Y0
 have M0:=hM.bel al hM.lt
 have h00:=h0.trans (al.mono h0.size)
 have g0:w.grownBy ((w.alloc (.cells #[.slice a h.length cap,.map (some mb)] 92)).alloc (.cells #[.int .i64 k,.int .i64 i,.int .i64 j] 25)) (some mb):=grown_below8 (some mb) al
 have hml:=hM.lt
 unfold badP
 simp only
 have nc0:((w.alloc (.cells #[.slice a h.length cap,.map (some mb)] 92)).alloc (.cells #[.int .i64 k,.int .i64 i,.int .i64 j] 25)).cell? ⟨w.heap.size,0,none⟩=some (.slice a h.length cap):=X0.cell 0 _ rfl
 have nc1:((w.alloc (.cells #[.slice a h.length cap,.map (some mb)] 92)).alloc (.cells #[.int .i64 k,.int .i64 i,.int .i64 j] 25)).cell? ⟨w.heap.size,1,none⟩=some (.map (some mb)):=X0.cell 1 _ rfl
 have yc1:((w.alloc (.cells #[.slice a h.length cap,.map (some mb)] 92)).alloc (.cells #[.int .i64 k,.int .i64 i,.int .i64 j] 25)).cell? ⟨w.heap.size+1,1,none⟩=some (.int .i64 i):=Y0.cell 1 _ rfl
 go_enter Tryz.func40,Tryz.ntmps40
 go_wp2_with fail
 refine (pended14 h a cap mb c p i w0 _ hT h00 hmb M0 (by omega) hl).mono ?_
 intro e w1 H1
 clear nc0 nc1 yc1
 have h01:=H1.bel h00 hmb
 obtain ⟨rfl,M1,g1⟩:=H1
 have X1:=X0.kept14 g1 (by omega)
 have Y1:=Y0.kept14 g1 (by omega)
 have G1:=g0.trans g1
 clear X0 Y0 M0 g1 h00
 have nc0:w1.cell? ⟨w.heap.size,0,none⟩=some (.slice a h.length cap):=X1.cell 0 _ rfl
 have nc1:w1.cell? ⟨w.heap.size,1,none⟩=some (.map (some mb)):=X1.cell 1 _ rfl
 have yc2:w1.cell? ⟨w.heap.size+1,2,none⟩=some (.int .i64 j):=Y1.cell 2 _ rfl
 go_wp2_with fail
 refine (pended14 h a cap mb (c+2) _ j w0 _ hT h01 hmb M1 (by omega) hl).mono ?_
 intro e w2 H2
 clear nc0 nc1 yc2
 have h02:=H2.bel h01 hmb
 obtain ⟨rfl,M2,g2⟩:=H2
 have X2:=X1.kept14 g2 (by omega)
 have Y2:=Y1.kept14 g2 (by omega)
 have G2:=G1.trans g2
 clear X1 Y1 M1 g2 h01
 have nc0:w2.cell? ⟨w.heap.size,0,none⟩=some (.slice a h.length cap):=X2.cell 0 _ rfl
 have nc1:w2.cell? ⟨w.heap.size,1,none⟩=some (.map (some mb)):=X2.cell 1 _ rfl
 have yc1:w2.cell? ⟨w.heap.size+1,1,none⟩=some (.int .i64 i):=Y2.cell 1 _ rfl
 go_wp2_with fail
 refine (pwriter14 h a cap mb (c+2+2) _ i w0 _ hT h02 hmb M2 (by omega) hl).mono ?_
 intro e w3 H3
 clear nc0 nc1 yc1
 have h03:=H3.bel h02 hmb
 obtain ⟨rfl,M3,g3⟩:=H3
 have X3:=X2.kept14 g3 (by omega)
 have Y3:=Y2.kept14 g3 (by omega)
 have G3:=G2.trans g3
 clear X2 Y2 M2 g3 h02
 go_wp2_with fail
 go_end0
 exact ⟨rfl,M3,G3⟩
set_option maxHeartbeats 2000000 in
theorem pedge14_w (h:List Ev) (a:Option Addr) (cap:Nat) (mb c:Nat) (p:PS) (e0 e1 e2 e3 e4:Int) (w0 w:World) (hT:IsEvs w0 (.slice a h.length cap) h) (h0:Below w0.heap.size w0 w) (hmb:w0.heap.size≤mb) (hM:VMap w mb c (PM p)) (hc:c≤10000000) (hl:h.length≤100000) (he:e0=3) :
 Calls Tryz.prog 41 #[.agg #[.slice a h.length cap,.map (some mb)],.agg #[.int .i64 e0,.int .i64 e1,.int .i64 e2,.int .i64 e3,.int .i64 e4]] w fun e w'=>NRes w mb (c+6) (edgeP h p (e0,e1,e2,e3,e4)) e w':=by
 have al:Below w.heap.size w ((w.alloc (.cells #[.slice a h.length cap,.map (some mb)] 92)).alloc (.cells #[.int .i64 e0,.int .i64 e1,.int .i64 e2,.int .i64 e3,.int .i64 e4] 71)):=((Below.refl _ w).alloc (Nat.le_refl _) _).alloc (by simp) _
 have X0:=(SBox.new w 92 #[.slice a h.length cap,.map (some mb)]).alloc (.cells #[.int .i64 e0,.int .i64 e1,.int .i64 e2,.int .i64 e3,.int .i64 e4] 71)
 have Y0:=SBox.new (w.alloc (.cells #[.slice a h.length cap,.map (some mb)] 92)) 71 #[.int .i64 e0,.int .i64 e1,.int .i64 e2,.int .i64 e3,.int .i64 e4]
 rw [World.size_alloc] at Y0
 have M0:=hM.bel al hM.lt
 have h00:=h0.trans (al.mono h0.size)
 have g0:w.grownBy ((w.alloc (.cells #[.slice a h.length cap,.map (some mb)] 92)).alloc (.cells #[.int .i64 e0,.int .i64 e1,.int .i64 e2,.int .i64 e3,.int .i64 e4] 71)) (some mb):=grown_below8 (some mb) al
 have hml:=hM.lt
 unfold edgeP
 simp only
 rw [if_pos he]
 have hq:(e0==3)=true:=by simp [he]
 clear he
 have nc0:((w.alloc (.cells #[.slice a h.length cap,.map (some mb)] 92)).alloc (.cells #[.int .i64 e0,.int .i64 e1,.int .i64 e2,.int .i64 e3,.int .i64 e4] 71)).cell? ⟨w.heap.size,0,none⟩=some (.slice a h.length cap):=X0.cell 0 _ rfl
 have nc1:((w.alloc (.cells #[.slice a h.length cap,.map (some mb)] 92)).alloc (.cells #[.int .i64 e0,.int .i64 e1,.int .i64 e2,.int .i64 e3,.int .i64 e4] 71)).cell? ⟨w.heap.size,1,none⟩=some (.map (some mb)):=X0.cell 1 _ rfl
 have yc3:((w.alloc (.cells #[.slice a h.length cap,.map (some mb)] 92)).alloc (.cells #[.int .i64 e0,.int .i64 e1,.int .i64 e2,.int .i64 e3,.int .i64 e4] 71)).cell? ⟨w.heap.size+1,3,none⟩=some (.int .i64 e3):=Y0.cell 3 _ rfl
 go_enter Tryz.func41,Tryz.ntmps41
 go_wp2_with fail
 refine (pput14 h a cap mb c p e3 _ M0 (by omega) hl).mono ?_
 intro e w1 H1
 clear nc0 nc1 yc3
 have h01:=H1.bel h00 hmb
 obtain ⟨rfl,M1,g1⟩:=H1
 have X1:=X0.kept14 g1 (by omega)
 have Y1:=Y0.kept14 g1 (by omega)
 have G1:=g0.trans g1
 clear X0 Y0 M0 g1 h00
 have nc0:w1.cell? ⟨w.heap.size,0,none⟩=some (.slice a h.length cap):=X1.cell 0 _ rfl
 have nc1:w1.cell? ⟨w.heap.size,1,none⟩=some (.map (some mb)):=X1.cell 1 _ rfl
 have yc4:w1.cell? ⟨w.heap.size+1,4,none⟩=some (.int .i64 e4):=Y1.cell 4 _ rfl
 go_wp2_with fail
 refine (pput14 h a cap mb (c+1) _ e4 _ M1 (by omega) hl).mono ?_
 intro e w2 H2
 clear nc0 nc1 yc4
 have h02:=H2.bel h01 hmb
 obtain ⟨rfl,M2,g2⟩:=H2
 have X2:=X1.kept14 g2 (by omega)
 have Y2:=Y1.kept14 g2 (by omega)
 have G2:=G1.trans g2
 clear X1 Y1 M1 g2 h01
 have nc0:w2.cell? ⟨w.heap.size,0,none⟩=some (.slice a h.length cap):=X2.cell 0 _ rfl
 have nc1:w2.cell? ⟨w.heap.size,1,none⟩=some (.map (some mb)):=X2.cell 1 _ rfl
 have yc1:w2.cell? ⟨w.heap.size+1,1,none⟩=some (.int .i64 e1):=Y2.cell 1 _ rfl
 go_wp2_with fail
 refine (pend14 h a cap mb (c+1+1) _ e1 _ (hT.below h02) M2 (by omega) hl).mono ?_
 intro e w3 H3
 clear nc0 nc1 yc1
 have h03:=H3.bel h02 hmb
 obtain ⟨rfl,M3,g3⟩:=H3
 have X3:=X2.kept14 g3 (by omega)
 have Y3:=Y2.kept14 g3 (by omega)
 have G3:=G2.trans g3
 clear X2 Y2 M2 g3 h02
 have nc0:w3.cell? ⟨w.heap.size,0,none⟩=some (.slice a h.length cap):=X3.cell 0 _ rfl
 have nc1:w3.cell? ⟨w.heap.size,1,none⟩=some (.map (some mb)):=X3.cell 1 _ rfl
 have yc2:w3.cell? ⟨w.heap.size+1,2,none⟩=some (.int .i64 e2):=Y3.cell 2 _ rfl
 go_wp2_with fail
 refine (pend14 h a cap mb (c+1+1+1) _ e2 _ (hT.below h03) M3 (by omega) hl).mono ?_
 intro e w4 H4
 clear nc0 nc1 yc2
 have h04:=H4.bel h03 hmb
 obtain ⟨rfl,M4,g4⟩:=H4
 have X4:=X3.kept14 g4 (by omega)
 have Y4:=Y3.kept14 g4 (by omega)
 have G4:=G3.trans g4
 clear X3 Y3 M3 g4 h03
 have yk:w4.cell? ⟨w.heap.size+1,0,none⟩=some (.int .i64 e0):=Y4.cell 0 _ rfl
 have nc0:w4.cell? ⟨w.heap.size,0,none⟩=some (.slice a h.length cap):=X4.cell 0 _ rfl
 have nc1:w4.cell? ⟨w.heap.size,1,none⟩=some (.map (some mb)):=X4.cell 1 _ rfl
 have yc3:w4.cell? ⟨w.heap.size+1,3,none⟩=some (.int .i64 e3):=Y4.cell 3 _ rfl
 go_wp2_with fail
 refine (pwriter14 h a cap mb (c+1+1+1+1) _ e3 w0 _ hT h04 hmb M4 (by omega) hl).mono ?_
 intro e w5 H5
 clear nc0 nc1 yc3
 have h05:=H5.bel h04 hmb
 obtain ⟨rfl,M5,g5⟩:=H5
 have X5:=X4.kept14 g5 (by omega)
 have Y5:=Y4.kept14 g5 (by omega)
 have G5:=G4.trans g5
 clear X4 Y4 M4 g5 h04
 go_wp2_with fail
 go_end0
 exact ⟨rfl,M5,G5⟩
set_option maxHeartbeats 2000000 in
theorem pedge14_n (h:List Ev) (a:Option Addr) (cap:Nat) (mb c:Nat) (p:PS) (e0 e1 e2 e3 e4:Int) (w0 w:World) (hT:IsEvs w0 (.slice a h.length cap) h) (h0:Below w0.heap.size w0 w) (hmb:w0.heap.size≤mb) (hM:VMap w mb c (PM p)) (hc:c≤10000000) (hl:h.length≤100000) (he:¬ e0=3) :
 Calls Tryz.prog 41 #[.agg #[.slice a h.length cap,.map (some mb)],.agg #[.int .i64 e0,.int .i64 e1,.int .i64 e2,.int .i64 e3,.int .i64 e4]] w fun e w'=>NRes w mb (c+6) (edgeP h p (e0,e1,e2,e3,e4)) e w':=by
 have al:Below w.heap.size w ((w.alloc (.cells #[.slice a h.length cap,.map (some mb)] 92)).alloc (.cells #[.int .i64 e0,.int .i64 e1,.int .i64 e2,.int .i64 e3,.int .i64 e4] 71)):=((Below.refl _ w).alloc (Nat.le_refl _) _).alloc (by simp) _
 have X0:=(SBox.new w 92 #[.slice a h.length cap,.map (some mb)]).alloc (.cells #[.int .i64 e0,.int .i64 e1,.int .i64 e2,.int .i64 e3,.int .i64 e4] 71)
 have Y0:=SBox.new (w.alloc (.cells #[.slice a h.length cap,.map (some mb)] 92)) 71 #[.int .i64 e0,.int .i64 e1,.int .i64 e2,.int .i64 e3,.int .i64 e4]
 rw [World.size_alloc] at Y0
 have M0:=hM.bel al hM.lt
 have h00:=h0.trans (al.mono h0.size)
 have g0:w.grownBy ((w.alloc (.cells #[.slice a h.length cap,.map (some mb)] 92)).alloc (.cells #[.int .i64 e0,.int .i64 e1,.int .i64 e2,.int .i64 e3,.int .i64 e4] 71)) (some mb):=grown_below8 (some mb) al
 have hml:=hM.lt
 unfold edgeP
 simp only
 rw [if_neg he]
 have hq:(e0==3)=false:=by simp [he]
 clear he
 have nc0:((w.alloc (.cells #[.slice a h.length cap,.map (some mb)] 92)).alloc (.cells #[.int .i64 e0,.int .i64 e1,.int .i64 e2,.int .i64 e3,.int .i64 e4] 71)).cell? ⟨w.heap.size,0,none⟩=some (.slice a h.length cap):=X0.cell 0 _ rfl
 have nc1:((w.alloc (.cells #[.slice a h.length cap,.map (some mb)] 92)).alloc (.cells #[.int .i64 e0,.int .i64 e1,.int .i64 e2,.int .i64 e3,.int .i64 e4] 71)).cell? ⟨w.heap.size,1,none⟩=some (.map (some mb)):=X0.cell 1 _ rfl
 have yc3:((w.alloc (.cells #[.slice a h.length cap,.map (some mb)] 92)).alloc (.cells #[.int .i64 e0,.int .i64 e1,.int .i64 e2,.int .i64 e3,.int .i64 e4] 71)).cell? ⟨w.heap.size+1,3,none⟩=some (.int .i64 e3):=Y0.cell 3 _ rfl
 go_enter Tryz.func41,Tryz.ntmps41
 go_wp2_with fail
 refine (pput14 h a cap mb c p e3 _ M0 (by omega) hl).mono ?_
 intro e w1 H1
 clear nc0 nc1 yc3
 have h01:=H1.bel h00 hmb
 obtain ⟨rfl,M1,g1⟩:=H1
 have X1:=X0.kept14 g1 (by omega)
 have Y1:=Y0.kept14 g1 (by omega)
 have G1:=g0.trans g1
 clear X0 Y0 M0 g1 h00
 have nc0:w1.cell? ⟨w.heap.size,0,none⟩=some (.slice a h.length cap):=X1.cell 0 _ rfl
 have nc1:w1.cell? ⟨w.heap.size,1,none⟩=some (.map (some mb)):=X1.cell 1 _ rfl
 have yc4:w1.cell? ⟨w.heap.size+1,4,none⟩=some (.int .i64 e4):=Y1.cell 4 _ rfl
 go_wp2_with fail
 refine (pput14 h a cap mb (c+1) _ e4 _ M1 (by omega) hl).mono ?_
 intro e w2 H2
 clear nc0 nc1 yc4
 have h02:=H2.bel h01 hmb
 obtain ⟨rfl,M2,g2⟩:=H2
 have X2:=X1.kept14 g2 (by omega)
 have Y2:=Y1.kept14 g2 (by omega)
 have G2:=G1.trans g2
 clear X1 Y1 M1 g2 h01
 have nc0:w2.cell? ⟨w.heap.size,0,none⟩=some (.slice a h.length cap):=X2.cell 0 _ rfl
 have nc1:w2.cell? ⟨w.heap.size,1,none⟩=some (.map (some mb)):=X2.cell 1 _ rfl
 have yc1:w2.cell? ⟨w.heap.size+1,1,none⟩=some (.int .i64 e1):=Y2.cell 1 _ rfl
 go_wp2_with fail
 refine (pend14 h a cap mb (c+1+1) _ e1 _ (hT.below h02) M2 (by omega) hl).mono ?_
 intro e w3 H3
 clear nc0 nc1 yc1
 have h03:=H3.bel h02 hmb
 obtain ⟨rfl,M3,g3⟩:=H3
 have X3:=X2.kept14 g3 (by omega)
 have Y3:=Y2.kept14 g3 (by omega)
 have G3:=G2.trans g3
 clear X2 Y2 M2 g3 h02
 have nc0:w3.cell? ⟨w.heap.size,0,none⟩=some (.slice a h.length cap):=X3.cell 0 _ rfl
 have nc1:w3.cell? ⟨w.heap.size,1,none⟩=some (.map (some mb)):=X3.cell 1 _ rfl
 have yc2:w3.cell? ⟨w.heap.size+1,2,none⟩=some (.int .i64 e2):=Y3.cell 2 _ rfl
 go_wp2_with fail
 refine (pend14 h a cap mb (c+1+1+1) _ e2 _ (hT.below h03) M3 (by omega) hl).mono ?_
 intro e w4 H4
 clear nc0 nc1 yc2
 have h04:=H4.bel h03 hmb
 obtain ⟨rfl,M4,g4⟩:=H4
 have X4:=X3.kept14 g4 (by omega)
 have Y4:=Y3.kept14 g4 (by omega)
 have G4:=G3.trans g4
 clear X3 Y3 M3 g4 h03
 have yk:w4.cell? ⟨w.heap.size+1,0,none⟩=some (.int .i64 e0):=Y4.cell 0 _ rfl
 go_wp2_with fail
 go_end0
 exact ⟨rfl,M4.mono (by omega),G4⟩
end Go.Proofs.YtkkenfhlgpjmjaaGreatDoor
