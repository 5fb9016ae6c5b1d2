/-
  What taint.counts and ownWrite answer. What ring.Order's closure does; what Order holds. What ring.Order answers. What ring.Order answers: its loops. What ring.
-/
import Derived.Test.YtiihegldhnlleaaGreatCP8Find
import Derived.Test.YtiihegldhnlleaaGreatCP11Tk
import Derived.Test.YtiihegldhnlleaaGreatCP11Wv
import Derived.Test.YtiihegldhnlleaaGreatCR8Formed
import Derived.Deep.LoopGhost
namespace Go.Proofs.YtiihegldhnlleaaGreat
set_option maxRecDepth 100000
open Go.RowKit
set_option linter.unusedVariables false
attribute [local go_sem] ba_size
set_option maxHeartbeats 2000000 in
theorem pcounts_any (h:List Ev) (v:Value) (w:World) (hT:IsEvs w v h) (i:Int) :
 Calls Tryz.prog 117 #[v,.int .i64 i] w fun e w'=>e=.returned (.bool (countI h i))∧Below w.heap.size w w':=by
 have C1:=fun (t:Int) W hW=>pfind8_any h v W t (hT.below (w':=W) hW)
 obtain ⟨a,cap,rfl,h1,h2,h3,HC⟩:=hT.reads
 obtain ⟨n,hn⟩:∃ n,h.length=n:=⟨_,rfl⟩
 have HN:Hid (h.length=n):=hn
 simp only [hn] at C1
 rw [hn] at h1 h3 ⊢
 clear hT hn
 by_cases i0:i < 0
 ·rw [show countI h i=false by unfold countI;rw [decide_eq_false (by omega)];rfl]
  go_enter Tryz.func117,Tryz.ntmps117
  go_wp2_with fail
  go_ret
  exact ⟨rfl,Below.refl _ _⟩
 ·obtain ⟨q,rfl⟩:∃ q:Nat,i=(q:Int):=⟨i.toNat,by omega⟩
  have HQQ:Hid (countI h (q:Int)=countsB h q):=by show _=_;unfold countI;rw [decide_eq_true (by omega)];simp
  by_cases i1:q < n
  ·have hq1:q < h.length:=by have:=HN.out;omega
   have j1:¬ (n:Int)≤(q:Int):=by omega
   have j11:¬ n≤q:=by omega
   obtain ⟨bb,off,rfl,HQ⟩:=HC.out (by omega)
   obtain ⟨c0,c1,_,_⟩:=HQ.out q hq1 _ (Below.refl _ _)
   obtain ⟨⟨x0,x1,x2,x3⟩,hx⟩:∃ x,ev h q=x:=⟨_,rfl⟩
   have HX:Hid (ev h q=(x0,x1,x2,x3)):=hx
   rw [hx] at c0 c1
   simp only at c0 c1
   by_cases d:x0=2
   ·have e2:(x0 != 2)=false:=by rw [d];rfl
    have D:=C1 x1
    have HF:=cnt_find h q hq1 (by rw [hx];exact d)
    rw [hx] at HF
    simp only at HF
    obtain ⟨⟨⟨f0,f1,f2,f3⟩,f4⟩,hf⟩:∃ y,findP h x1=y:=⟨_,rfl⟩
    rw [hf] at HF D
    simp only at HF D
    rw [HQQ.out,HF]
    clear hx HF hf d hq1
    cases f3 with
    | false =>
      rw [Bool.false_and]
      go_enter Tryz.func117,Tryz.ntmps117
      go_wp2_with fail
      refine (D _ (Below.refl _ _)).mono ?_
      rintro e' w1 ⟨rfl,b1⟩
      have X1:=SBox.new w1 51 #[.int .i64 f0,.int .i64 (f1:Int),.int .i64 (f2:Int),.bool false]
      have y2:=X1.cell 2 _ rfl
      have y3:=X1.cell 3 _ rfl
      go_wp2_with fail
      go_ret
      exact ⟨rfl,b1.alloc b1.size _⟩
    | true =>
      rw [Bool.true_and]
      by_cases l1:q < f2
      ·have l2:(q:Int) < (f2:Int):=by omega
       rw [decide_eq_true l1]
       go_enter Tryz.func117,Tryz.ntmps117
       go_wp2_with fail
       refine (D _ (Below.refl _ _)).mono ?_
       rintro e' w1 ⟨rfl,b1⟩
       have X1:=SBox.new w1 51 #[.int .i64 f0,.int .i64 (f1:Int),.int .i64 (f2:Int),.bool true]
       have y2:=X1.cell 2 _ rfl
       have y3:=X1.cell 3 _ rfl
       go_wp2_with fail
       go_ret
       exact ⟨rfl,b1.alloc b1.size _⟩
      ·have l2:¬ (q:Int) < (f2:Int):=by omega
       rw [decide_eq_false l1]
       go_enter Tryz.func117,Tryz.ntmps117
       go_wp2_with fail
       refine (D _ (Below.refl _ _)).mono ?_
       rintro e' w1 ⟨rfl,b1⟩
       have X1:=SBox.new w1 51 #[.int .i64 f0,.int .i64 (f1:Int),.int .i64 (f2:Int),.bool true]
       have y2:=X1.cell 2 _ rfl
       have y3:=X1.cell 3 _ rfl
       go_wp2_with fail
       go_ret
       exact ⟨rfl,b1.alloc b1.size _⟩
   ·have e2:(x0 != 2)=true:=bne_iff_ne.2 d
    rw [HQQ.out,count_kind h q (by rw [HX.out];exact d)]
    clear hx
    go_enter Tryz.func117,Tryz.ntmps117
    go_wp2_with fail
    go_ret
    exact ⟨rfl,Below.refl _ _⟩
  ·have j1:(n:Int)≤(q:Int):=by omega
   have j11:n≤q:=by omega
   rw [HQQ.out,count_out h q (by have:=HN.out;omega)]
   go_enter Tryz.func117,Tryz.ntmps117
   go_wp2_with fail
   go_ret
   exact ⟨rfl,Below.refl _ _⟩
set_option maxHeartbeats 2000000 in
theorem pown_any (h:List Ev) (v:Value) (w:World) (hT:IsEvs w v h) (q:Nat) (hq:q < h.length) :
 Calls Tryz.prog 118 #[v,.int .i64 (q:Int)] w fun e w'=>e=.returned (.int .i64 (oI (lastN h (ev h q).2.1 (ev h q).2.2.1 q)))∧Below w.heap.size w w':=by
 have C1:=fun (t:Int) (k:List UInt8) W hW=>plast8_any h v W t k (q:Int) (hT.below (w':=W) hW)
 simp only [last_upto h _ _ q (by omega)] at C1
 obtain ⟨a,cap,rfl,h1,h2,h3,HC⟩:=hT.reads
 obtain ⟨bb,off,rfl,HQ⟩:=HC.out (by omega)
 obtain ⟨c0,c1,c2,_⟩:=HQ.out q hq _ (Below.refl _ _)
 obtain ⟨⟨x0,x1,x2,x3⟩,hx⟩:∃ x,ev h q=x:=⟨_,rfl⟩
 rw [hx] at c0 c1 c2 ⊢
 simp only at c0 c1 c2 ⊢
 have D:=C1 x1 x2
 obtain ⟨m,hm⟩:∃ m,oI (lastN h x1 x2 q)=m:=⟨_,rfl⟩
 rw [hm] at D ⊢
 obtain ⟨n,hn⟩:∃ n,h.length=n:=⟨_,rfl⟩
 rw [hn] at D h1 h3 hq ⊢
 clear hn hm hx C1 hT HC HQ
 go_enter Tryz.func118,Tryz.ntmps118
 go_wp2_with fail
 have S0:(fun V=>Below (w).heap.size (w) V∧V.cell? ⟨bb,off+q*4+1,none⟩=some (.int .i64 x1)∧V.cell? ⟨bb,off+q*4+2,none⟩=some (.string ⟨x2.toArray⟩)) (w).drew:=⟨(Below.refl _ _).drew,c1,c2⟩
 have keepS:∀ V V':World,(fun V=>Below (w).heap.size (w) V∧V.cell? ⟨bb,off+q*4+1,none⟩=some (.int .i64 x1)∧V.cell? ⟨bb,off+q*4+2,none⟩=some (.string ⟨x2.toArray⟩)) V→Below V.heap.size V V'→(fun V=>Below (w).heap.size (w) V∧V.cell? ⟨bb,off+q*4+1,none⟩=some (.int .i64 x1)∧V.cell? ⟨bb,off+q*4+2,none⟩=some (.string ⟨x2.toArray⟩)) V':=fun V V' ⟨a,a0,a1⟩ d=>⟨bel_trans a d,cell_bel d a0,cell_bel d a1⟩
 go_wp2_with fail
 go_region_held3 (fun V=>Below (w).heap.size (w) V∧V.cell? ⟨bb,off+q*4+1,none⟩=some (.int .i64 x1)∧V.cell? ⟨bb,off+q*4+2,none⟩=some (.string ⟨x2.toArray⟩)) (first | exact S0 | exact keepS _ _ (by assumption) (by assumption)) (first | (go_at_call 135;refine (D _ (bel_trans (Below.refl _ _) (And.left (by assumption)))).mono ?_;rintro e' w' ⟨rfl,b8⟩))
 rename_i hHeld8
 have s8:=hHeld8.1
 clear S0 keepS hHeld8
 go_wp2_with fail
 go_ret
 exact ⟨rfl,s8⟩
end Go.Proofs.YtiihegldhnlleaaGreat
namespace Go.Proofs.YtiihegldhnlleaaGreat
set_option maxRecDepth 100000
open Go.RowKit Go.Maps
set_option linter.unusedVariables false
attribute [local go_sem] ba_size
def RdRes (B bn:Nat) (a:List Int) (x p:Int) (V':World):Prop:=∃ b,HpS V' B bn b∧Heaped b∧((p=0∧b.Perm (x::a))∨(p≠0∧b=a))
set_option maxHeartbeats 2000000 in
theorem pready11_any (V:World) (vl vn:Value) (m1 m2 m3 nb:Nat) (c:Cnt) (x:Int) (p:Int × Int) (B bn bw:Nat) (a:List Int) (hbx:SBox V bw tW (webC vl vn m1 m2 m3)) (hM:CMap V m1 nb c) (hc:c x=some p) (hx:I64 x) (hS:HpS V B bn a) (hH:Heaped a) (hn:a.length < 17592186044415) :
 Calls Tryz.prog 76 #[.int .i64 x,.pointer (some ⟨bw,0,none⟩),.pointer (some ⟨bn,0,none⟩)] V fun e V'=>e=.returned (.tuple #[])∧RdRes B bn a x p.1 V'∧Fr B bn V V':=by
 have hv:((c x).map cntV).getD (.agg #[.int .i64 0,.int .i64 0])=.agg #[.int .i64 p.1,.int .i64 p.2]:=by rw [hc];rfl
 have c2:=hbx.cell 2 _ rfl
 have hfl:∀ (a b:Int) V,(Instr.field tC (.agg #[.int .i64 a,.int .i64 b]) 0).run Tryz.prog V=.ok (.int .i64 a) V:=fun a b V=>by kernel_rfl
 obtain ⟨p1,p2⟩:=p
 simp only at hv ⊢
 by_cases h0:p1=0
 ·subst h0
  have CA:=padd11_any V B bn a x hx hS hH hn
  clear hS hbx hc
  unfold CMap at hM
  go_enter Tryz.func76,Tryz.ntmps76
  go_wp2_with (at_lookup;refine wpl_look _ rfl _ _ tML rfl tC Tryz.underlying106 (zeroC _) m1 nb _ rfl hM x hx rfl _ hv ?_)
  refine CA.mono ?_
  rintro e w1 ⟨rfl,⟨b,q1,q2⟩,f1⟩
  have HE:Hid (RdRes B bn a x 0 w1):=⟨b,q1,q2.1,.inl ⟨rfl,q2.2⟩⟩
  clear q1 q2
  go_wp2_with fail
  go_end0
  exact ⟨rfl,HE.out,f1⟩
 ·have e0:(p1==0)=false:=by simp [h0]
  have HE:Hid (RdRes B bn a x p1 V):=⟨a,hS,hH,.inr ⟨h0,rfl⟩⟩
  clear hS hbx hc hH
  unfold CMap at hM
  go_enter Tryz.func76,Tryz.ntmps76
  go_wp2_with (at_lookup;refine wpl_look _ rfl _ _ tML rfl tC Tryz.underlying106 (zeroC _) m1 nb _ rfl hM x hx rfl _ hv ?_)
  go_end0
  exact ⟨rfl,HE.out,Fr.refl _ _ _⟩
theorem enters_ready:∀ args V,(callFunc 76 args).run Tryz.prog V=.ok (.enter 76 args) V:=enters_of Tryz.func76 (by kernel_rfl) rfl
structure OrS (V:World) (bw bn:Nat) (cs:Array Value) (ov:Value) (out a:List Int):Prop where
 bx:SBox V bw tW cs
 hp:HpS V (bw+1) bn a
 hh:Heaped a
 ow:V.ownsRow (bw+1) 3 1 ov out.length (iV out)
 ap:∀ g,ov.ownBlock=some g→vblk V bn≠some g
section
variable {V V':World} {bw bn:Nat} {cs:Array Value} {ov:Value} {out a b:List Int}
theorem HpS.lt {W:World} {B bn:Nat} {a:List Int} (h:HpS W B bn a):bn < W.heap.size:=by obtain ⟨_,v,hb,_⟩:=h;exact hb.lt
theorem HpS.vb {W:World} {B bn:Nat} {a:List Int} (h:HpS W B bn a) {b:Nat} {t:TypeId} {cs:Array Value} (hb:SBox W b t cs) (ht:t≠3):some b≠vblk W bn:=by
 obtain ⟨_,v,hbx,hrow⟩:=h
 rw [vblk_of hbx]
 exact block_not_row hb ht hrow
theorem OrS.bel (h:OrS V bw bn cs ov out a) (hb:Below V.heap.size V V'):OrS V' bw bn cs ov out a :=
 ⟨h.bx.below hb,h.hp.bel hb,h.hh,h.ow.kept (grown_below8 none hb) (by cases ov.ownBlock<;>simp),fun g hg=>by rw [vblk_same (hb.block bn h.hp.lt)];exact h.ap g hg⟩
theorem OrS.turn (h:OrS V bw bn cs ov out a) {m1:Nat} (hg:V.grownBy V' (some m1)) (hm:m1 < bw):OrS V' bw bn cs ov out a:=by
 obtain ⟨hB,v,hbx,hrow⟩:=h.hp
 refine ⟨(hg.block bw h.bx.lt (fun e=>by have:=Option.some.inj e;omega)).trans h.bx,⟨hB,v,hbx.kept hg (fun e=>by have:=Option.some.inj e;omega),hrow.kept hg (own_off hrow (by omega))⟩,h.hh,h.ow.kept hg (own_off h.ow (by omega)),fun g hgg=>?_⟩
 rw [vblk_same (hg.block bn hbx.lt (fun e=>by have:=Option.some.inj e;omega))]
 exact h.ap g hgg
theorem OrS.fr (h:OrS V bw bn cs ov out a) (hf:Fr (bw+1) bn V V') (hb:HpS V' (bw+1) bn b) (hh:Heaped b):OrS V' bw bn cs ov out b:=by
 obtain ⟨hB,v,hbx,hrow⟩:=h.hp
 have hne:ov.ownBlock≠some bn:=fun e=>block_not_row hbx (by decide) h.ow (by rw [e])
 obtain ⟨q1,q2⟩:=hf.other h.ow hne h.ap
 exact ⟨(hf.bel.block bw (by omega)).trans h.bx,hb,hh,q1,q2⟩
theorem OrS.order (h:OrS V bw bn cs ov out a) {ov':Value} {x:Int} (o:Obj) {W2:World} (hown:W2.ownsRow (bw+1) 3 1 ov' (out.length+1) (iV out++[.int .i64 x])) (hg:(V.alloc o).grownBy W2 ov.ownBlock) (hat:ov'.ownBlock=ov.ownBlock∨ov'.ownBlock=some (V.alloc o).heap.size):OrS W2 bw bn cs ov' (out++[x]) a:=by
 have hA:=h.bel ((Below.refl _ V).alloc (Nat.le_refl _) o)
 obtain ⟨hB,v,hbx,hrow⟩:=hA.hp
 have hvb:=vblk_of hbx
 have hnb:some bn≠ov.ownBlock:=block_not_row hbx (by decide) hA.ow
 have hbx2:Boxed W2 bn tR v:=(hg.block bn hbx.lt hnb).trans hbx
 have hapv:v.ownBlock=none∨v.ownBlock≠ov.ownBlock:=by
  cases hv:v.ownBlock with
  | none=>exact .inl rfl
  | some g=>exact .inr (fun e=>hA.ap g e.symm (by rw [hvb];exact hv))
 refine ⟨(hg.block bw hA.bx.lt (block_not_row hA.bx (by decide) hA.ow)).trans hA.bx,⟨hB,v,hbx2,hrow.kept hg hapv⟩,h.hh,by rw [List.length_append,iV_app];exact hown,fun g hgg e=>?_⟩
 rw [vblk_of hbx2] at e
 rcases hat with e1 | e1
 ·exact hA.ap g (by rw [← e1];exact hgg) (by rw [hvb];exact e)
 ·rw [e1] at hgg
  have:=(hrow.lt g e).2
  have:=Option.some.inj hgg
  omega
end
theorem zeros_s2 {c:Cnt} {a X:List Int} (h:Zeros c a):Zeros (X.foldl st2 c) a:=by
 refine ⟨h.1,fun x=>?_⟩
 rw [h.2 x,s2_at]
 cases c x with
 | none=>simp
 | some p =>
   simp only [Option.some.injEq,Option.map_some]
   constructor
   ·rintro ⟨q,rfl⟩;exact ⟨_,rfl⟩
   ·rintro ⟨q,h⟩;exact ⟨p.2,by cases p;simp at h;simp [h.1]⟩
theorem zeros_few {l:List Stp} {S:Int→Bool} {N a:List Int} (h:Zeros (cntF l S) a) (hS:∀ x,S x=true→x∈N):a.length≤(N.filter S).length:=by
 refine List.Nodup.length_le_of_subset h.1 fun x hx=>?_
 obtain ⟨q,hq⟩:=(h.2 x).1 hx
 unfold cntF at hq
 by_cases hs:S x=true
 ·exact List.mem_filter.2 ⟨hS x hs,hs⟩
 ·rw [if_neg hs] at hq;cases hq
theorem filter_drop_lt (N:List Int) (S:Int→Bool) (x:Int) (hx:x∈N) (hs:S x=true):(N.filter (dropB S x)).length < (N.filter S).length:=by
 have e:N.filter (dropB S x)=(N.filter S).filter fun y=>decide (y≠x):=left_drop N S x
 rw [e]
 exact filter_less _ x (List.mem_filter.2 ⟨hx,hs⟩)
end Go.Proofs.YtiihegldhnlleaaGreat
namespace Go.Proofs.YtiihegldhnlleaaGreat
set_option maxRecDepth 100000
open Go.RowKit Go.Maps
set_option linter.unusedVariables false
attribute [local go_sem] ba_size
abbrev readyF (bw bn:Nat):Value:=.func (.func 76) #[] #[.pointer (some ⟨bw,0,none⟩),.pointer (some ⟨bn,0,none⟩)]
def OrJ (bw bn:Nat) (cs:Array Value) (ov:Value) (out:List Int) (nN:Nat) (c:Cnt) (V:World):Prop:=∃ a,OrS V bw bn cs ov out a∧Zeros c a
theorem ptakeO_any (Wc W:World) (l:List Stp) (N:List Int) (vl vn:Value) (m1 m2 m3:Nat) (hw:Web Wc l N vl vn m1 m2 m3) (S:Int→Bool) (hS:∀ y,S y=true→y∈N) (hM:CMap W m1 17592186044416 (cntF l S)) (hg:Wc.grownBy W (some m1)) (x:Int) (hxS:S x=true) (h0:inC l S x=0)
 (bw bn:Nat) (hbw:Wc.heap.size=bw) (hbn:bn=bw+1) (ov:Value) (out b:List Int) (hO:OrS W bw bn (webC vl vn m1 m2 m3) ov out b) (hz:Zeros (delC (cntF l S) x) b) :
 Calls Tryz.prog 80 #[webV vl vn m1 m2 m3,.int .i64 x,readyF bw bn] W fun e V'=>e=.returned (.tuple #[])∧OrJ bw bn (webC vl vn m1 m2 m3) ov out N.length (cntF l (dropB S x)) V'∧CMap V' m1 17592186044416 (cntF l (dropB S x))∧Wc.grownBy V' (some m1):=by
 have hm1:=isMap_lt hw.isM
 have hS0:∀ y,S y=true→inN N y=true:=fun y hy=>by unfold inN;simpa using hS y hy
 have hfewZ:∀ (c:Cnt) (a:List Int),(∀ y,(c y).isSome=true→S y=true)→Zeros c a→a.length≤N.length:=fun c a hc h=>by
  refine List.Nodup.length_le_of_subset h.1 fun y hy=>?_
  obtain ⟨q,hq⟩:=(h.2 y).1 hy
  exact hS y (hc y (by rw [hq];rfl))
 have hd1:∀ (X:List Int) (y:Int),(X.foldl st1 (delC (cntF l S) x) y).isSome=true→S y=true:=fun X y h=>del_dom l S x y (by rw [← s1_dom (delC (cntF l S) x) X y];exact h)
 have hN:=hw.fewN
 refine (ptake11_any Wc W l N vl vn m1 m2 m3 17592186044416 hw (cntF l S) hM (by omega) hg x (hw.okN x (hS x hxS)) (bnd_cntF l S) 76 enters_ready #[.pointer (some ⟨bw,0,none⟩),.pointer (some ⟨bn,0,none⟩)] bn hO.hp.lt
  (fun i V=>OrJ bw bn (webC vl vn m1 m2 m3) ov out N.length (s1 (delC (cntF l S) x) (outX l (inN N) x) i) V)
  (fun i V=>OrJ bw bn (webC vl vn m1 m2 m3) ov out N.length ((outX l (inN N) x).foldl st1 (delC (cntF l S) x)) V)
  ⟨b,hO,hz⟩ ?b1 ?k1 ?c1 ?s1 ?j ?b2 ?k2 ?c2 ?s2).mono ?_
 case b1=>rintro i V bb cs ⟨a,hA,_⟩ hb;exact hA.hp.vb hb (by decide)
 case b2=>rintro i V bb cs ⟨a,hA,_⟩ hb;exact hA.hp.vb hb (by decide)
 case k1=>rintro i V V' ⟨a,hA,hz⟩ hg;exact ⟨a,hA.turn hg (by omega),hz⟩
 case k2=>rintro i V V' ⟨a,hA,hz⟩ hg;exact ⟨a,hA.turn hg (by omega),hz⟩
 case s1=>rintro i hi V hn ⟨a,hA,hz⟩;exact ⟨a,hA,by rw [s1_none _ _ i hi hn];exact hz⟩
 case s2=>rintro i hi V hn h;exact h
 case j=>rintro V ⟨a,hA,hz⟩;exact ⟨a,hA,by unfold s1 at hz;rw [List.take_length] at hz;exact hz⟩
 case c2 =>
  intro i hi V _ _ his
  rw [none_before l (inN N) S x h0 _ (fun y hy=>hd1 _ y hy) i hi] at his
  cases his
 case c1 =>
  rintro i hi V hgV hsz his ⟨a,hA,hz⟩ hMV
  obtain ⟨p,hp⟩:=Option.isSome_iff_exists.1 his
  have hpos:=pos_before l (inN N) S x hxS hS0 i hi p hp
  have hnx:=s1_some _ _ i hi p hp
  have hcV:s1 (delC (cntF l S) x) (outX l (inN N) x) (i+1) (outX l (inN N) x)[i]=some (p.1 - 1,p.2):=by rw [hnx];unfold updC;rw [if_pos rfl]
  have hyS:S (outX l (inN N) x)[i]=true:=hd1 ((outX l (inN N) x).take i) _ (by unfold s1 at hp;rw [hp];rfl)
  have hla:=hfewZ _ a (fun y hy=>hd1 ((outX l (inN N) x).take i) y hy) hz
  refine (pready11_any V vl vn m1 m2 m3 17592186044416 _ (outX l (inN N) x)[i] (p.1 - 1,p.2) (bw+1) bn bw a hA.bx hMV hcV (hw.okN _ (hS _ hyS)) hA.hp hA.hh (by omega)).mono ?_
  rintro e V' ⟨he,⟨b',r1,r2,r3⟩,fr⟩
  refine ⟨he,⟨b',hA.fr fr r1 r2,?_⟩,fr.mono (by omega)⟩
  rw [hnx]
  rcases r3 with ⟨r3,r4⟩ | ⟨r3,r4⟩
  ·exact zeros_push hz (by rw [hp]) hpos r3 r4
  ·rw [r4];exact zeros_stay hz (by rw [hp]) hpos r3
 ·rintro e V' ⟨he,⟨a,hA,hz⟩,hc,hg⟩
  have e1:=takeF_is l (inN N) S x hxS hS0
  rw [e1] at hc
  refine ⟨he,⟨a,hA,?_⟩,hc,hg⟩
  rw [← e1]
  exact zeros_s2 hz
theorem cntF_at (l:List Stp) (S:Int→Bool) (x:Int) (h:S x=true):cntF l S x=some ((inC l S x:Int),(outC l S x:Int)):=by unfold cntF;rw [if_pos h]
def firstZ (l:List Stp) (N:List Int) (k:Nat) (a:List Int):Prop:=a.Nodup∧∀ x,x∈a↔x∈N.take k∧inC l (inN N) x=0
theorem firstZ_next (l:List Stp) (N:List Int) (hN:N.Nodup) (k:Nat) (hk:k < N.length) (a b:List Int) (h:firstZ l N k a) (hb:(((inC l (inN N) N[k]:Nat):Int)=0∧b.Perm (N[k]::a))∨(((inC l (inN N) N[k]:Nat):Int)≠0∧b=a)):firstZ l N (k+1) b:=by
 have hm:∀ x,x∈N.take (k+1)↔x∈N.take k∨x=N[k]:=fun x=>by rw [List.take_succ_eq_append_getElem hk,List.mem_append,List.mem_singleton]
 have hnot:N[k] ∉ N.take k:=by
  intro hh
  obtain ⟨j,hj,e⟩:=List.getElem_of_mem hh
  rw [List.length_take] at hj
  rw [List.getElem_take] at e
  have:=(List.nodup_iff_pairwise_ne.1 hN)
  exact (List.pairwise_iff_getElem.1 this) j k (by omega) hk (by omega) e
 rcases hb with ⟨h0,hp⟩ | ⟨h0,rfl⟩
 ·refine ⟨hp.nodup_iff.2 (List.nodup_cons.2 ⟨fun hh=>hnot ((h.2 _).1 hh).1,h.1⟩),fun x=>?_⟩
  rw [hp.mem_iff,List.mem_cons,h.2 x,hm x]
  constructor
  ·rintro (rfl | ⟨h1,h2⟩)
   ·exact ⟨.inr rfl,by omega⟩
   ·exact ⟨.inl h1,h2⟩
  ·rintro ⟨h1 | h1,h2⟩
   ·exact .inr ⟨h1,h2⟩
   ·exact .inl h1
 ·refine ⟨h.1,fun x=>?_⟩
  rw [h.2 x,hm x]
  constructor
  ·rintro ⟨h1,h2⟩;exact ⟨.inl h1,h2⟩
  ·rintro ⟨h1 | h1,h2⟩
   ·exact ⟨h1,h2⟩
   ·subst h1;omega
set_option maxHeartbeats 8000000 in
theorem porder11_any (nodes:List Int) (l:List Stp) (vn vl:Value) (w:World) (hO:IsInts w vn nodes) (hSv:Shp vn) (okn:∀ x∈nodes,okS x) (hT:IsSts w vl l) (hSl:Shp vl) (okl:∀ x∈l,goodSt x) (hn:nodes.length≤17592186043904) (hl:l.length≤3518437208780) :
 Calls Tryz.prog 50 #[vn,vl] w fun e w'=>OrdRes w (orderL nodes l) e w':=by
 obtain ⟨i0,hi,hz0,hz1,hz2⟩:=info_parts int_info
 have CW:=pweave11_any vn vl nodes l w hO hSv okn hn hT hSl okl hl
 obtain ⟨al,cl,rfl,_⟩:=sts_at hT
 obtain ⟨an,cn,rfl,_⟩:=hO.some_at
 clear hO hSv okn hT hSl okl
 go_enter Tryz.func50,Tryz.ntmps50
 go_wp2_with fail
 refine CW.mono ?_
 rintro e Wc ⟨N,vN,m1,m2,m3,rfl,hNum,bC,hWeb,hCM,hm1⟩
 obtain ⟨aN,cN,rfl,n1,n2,n3,_⟩:=hWeb.nums.some_at
 have HWeb:=Lib.hid hWeb
 have HNum:=Lib.hid hNum
 have HbC:=Lib.hid bC
 have hNle:=hWeb.fewN
 have hml:=isMap_lt hWeb.isM
 obtain ⟨nN,hnN⟩:∃ nN,N.length=nN:=⟨_,rfl⟩
 have HNN:=Lib.hid hnN
 rw [hnN] at n1 n3 hNle HWeb
 rw [hnN]
 obtain ⟨bw,hbw⟩:∃ bw,Wc.heap.size=bw:=⟨_,rfl⟩
 have Hbw:=Lib.hid hbw
 obtain ⟨nl,hnl⟩:∃ nl,l.length=nl:=⟨_,rfl⟩
 rw [hnl] at HWeb ⊢
 obtain ⟨W2,hW2⟩:∃ W2,(Wc.alloc (.cells (webC (.slice al nl cl) (.slice aN nN cN) m1 m2 m3) tW)).alloc (.cells #[.slice none 0 0] tR)=W2:=⟨_,rfl⟩
 have hO2:OrS W2 bw (bw+1) (webC (.slice al nl cl) (.slice aN nN cN) m1 m2 m3) (.slice none 0 0) [] []:=by
  rw [← hW2,← hbw]
  refine ⟨(SBox.new Wc tW _).alloc _,⟨Nat.le_refl _,.slice none 0 0,?_,World.ownsRow_nil _ _ _ _⟩,heaped_nil,World.ownsRow_nil _ _ _ _,fun g hg=>by simp [Value.ownBlock] at hg⟩
  have:=Boxed.new (Wc.alloc (.cells (webC (.slice al nl cl) (.slice aN nN cN) m1 m2 m3) tW)) tR (.slice none 0 0)
  simpa using this
 have hg2:Wc.grownBy W2 (some m1):=by rw [← hW2];exact (World.grownBy_alloc _ _ _).trans (World.grownBy_alloc _ _ _)
 have HO2:=Lib.hid hO2
 have Hg2:=Lib.hid hg2
 have HC2:Hid (CMap W2 m1 17592186044416 (cntF l (inN N))):=hCM.kept (by rw [← hW2];exact (World.grownBy_alloc _ _ none).trans (World.grownBy_alloc _ _ none):Wc.grownBy W2 none) (by simp)
 have x1:=hO2.bx.cell 1 _ rfl
 rw [hbw] at hml
 clear hWeb hNum bC hCM hnN hnl hO2 hg2 CW
 go_wp2_with fail
 go_loopw [20] (fun i wr=>∃ (k:Nat) (a:List Int),k≤nN∧i=.int .i64 (k:Int)∧Hid (OrS wr bw (bw+1) (webC (.slice al nl cl) (.slice aN nN cN) m1 m2 m3) (.slice none 0 0) [] a)∧Hid (firstZ l N k a)∧Hid (CMap wr m1 17592186044416 (cntF l (inN N)))∧Hid (Wc.grownBy wr (some m1))) (fun i _=>nN - (intOf i).toNat)
 case atStart=>exact ⟨0,[],Nat.zero_le _,rfl,HO2,⟨List.nodup_nil,fun x=>by simp⟩,HC2,Hg2⟩
 case round =>
  obtain ⟨k,a,hk,rfl,HO,HZ,HC,HG⟩:=hrel
  by_cases hlt:k < nN
  ·have j0:(k:Int) < (nN:Int):=by omega
   have hkN:k < N.length:=by have:=HNN.out;omega
   obtain ⟨aN',cN',ef,_,_,_,HQ⟩:=IsInts.reads (HWeb.out.nums.turned intV_len (by omega) HWeb.out.isM HG.out)
   obtain ⟨bN,oN,ea,HQ2⟩:=HQ.out (by omega)
   have cell:=HQ2.out k hkN wr (Below.refl _ _)
   rw [getD_at N 0 k hkN] at cell
   obtain ⟨rfl,rfl⟩:aN=aN'∧cN=cN':=by
    have hh:=HNN.out
    simpa [hh] using ef
   subst ea
   have hInN:inN N N[k]=true:=by unfold inN;simp
   have hIx:I64 N[k]:=HWeb.out.okN _ (List.getElem_mem hkN)
   have hla:a.length≤N.length:=List.Nodup.length_le_of_subset HZ.out.1 fun y hy=>List.mem_of_mem_take ((HZ.out.2 y).1 hy).1
   have CR:=pready11_any wr (.slice al nl cl) (.slice (some ⟨bN,oN,none⟩) nN cN) m1 m2 m3 17592186044416 (cntF l (inN N)) N[k] _ (bw+1) (bw+1) bw a HO.out.bx HC.out (cntF_at l (inN N) N[k] hInN) hIx HO.out.hp HO.out.hh (by have:=HNN.out;omega)
   have HNx:=Lib.hid (firstZ_next l N HNum.out.nodup k hkN a)
   simp only at CR
   obtain ⟨ci,hci⟩:∃ ci:Int,((inC l (inN N) N[k]:Nat):Int)=ci:=⟨_,rfl⟩
   rw [hci] at CR HNx
   obtain ⟨y,hy⟩:∃ y,N[k]=y:=⟨_,rfl⟩
   rw [hy] at CR HNx cell hIx
   clear ef hci hy hInN HQ HQ2 hla
   go_wp2_with fail
   refine CR.mono ?_
   rintro e w1 ⟨rfl,⟨b,r1,r2,r3⟩,fr⟩
   have HO1:=Lib.hid (HO.out.fr fr r1 r2)
   have HZ1:=Lib.hid (HNx.out b HZ.out r3)
   have HC1:Hid (CMap w1 m1 17592186044416 (cntF l (inN N))):=HC.out.bel fr.bel (by omega)
   have HG1:Hid (Wc.grownBy w1 (some m1)):=⟨fr.bel.os.trans HG.out.os,fr.bel.tape.trans HG.out.tape,fr.bel.output.trans HG.out.output,Nat.le_trans HG.out.size fr.bel.size,fun q hq hne=>(fr.bel.block q (by have:=Hbw.out;omega)).trans (HG.out.block q hq hne)⟩
   clear r1 r2 r3
   go_wp2_with fail
   refine ⟨⟨k+1,b,by omega,by first | go_num | simp,HO1,HZ1,HC1,HG1⟩,by simp [intOf];omega⟩
  ·obtain rfl:nN=k:=by omega
   have jq:¬ (nN:Int) < (nN:Int):=by omega
   have HZs:Hid (Zeros (cntF l (inN N)) a):=zeros_all l N a HNum.out.nodup HZ.out.1 (fun x=>by
    have:=HZ.out.2 x
    rw [← HNN.out,List.take_length] at this
    exact this)
   have HI0:Hid (ordI nodes l (leftL nodes (inN N)) []):=by
    have e:leftL nodes (inN N)=nodes:=by
     unfold leftL
     rw [List.filter_eq_self]
     intro x hx
     unfold inN
     simpa using (HNum.out.2.1 x).2 hx
    rw [e]
    exact ordI_start nodes l
   have HfN:Hid ((N.filter (inN N)).length=nN):=by
    show _=_
    rw [List.filter_eq_self.2 (fun x hx=>by unfold inN;simpa using hx)]
    exact HNN.out
   have HSs:Hid (∀ x,inN N x=true→x∈N):=fun x hx=>by unfold inN at hx;simpa using hx
   obtain ⟨wB,hwB⟩:∃ wB,wB=wr:=⟨_,rfl⟩
   have HO':Hid (OrS wB bw (bw+1) (webC (.slice al nl cl) (.slice aN nN cN) m1 m2 m3) (.slice none 0 0) [] a):=by rw [hwB];exact HO
   have HC':Hid (CMap wB m1 17592186044416 (cntF l (inN N))):=by rw [hwB];exact HC
   have HG':Hid (Wc.grownBy wB (some m1)):=by rw [hwB];exact HG
   subst hwB
   clear HO HZ HC HG
   go_wp2_with fail
   go_loopw [11] (fun ov wr=>∃ (S:Int→Bool) (a out:List Int),Hid (OrS wr bw (bw+1) (webC (.slice al nl cl) (.slice aN nN cN) m1 m2 m3) ov out a)∧Hid (Zeros (cntF l S) a)∧Hid (CMap wr m1 17592186044416 (cntF l S))∧Hid (Wc.grownBy wr (some m1))∧Hid (ordI nodes l (leftL nodes S) out)∧Hid (∀ x,S x=true→x∈N)∧Hid (out.length+(N.filter S).length≤nN)) (fun ov _=>nN - slLen ov)
   case atStart=>exact ⟨inN N,a,[],HO',HZs,HC',HG',HI0,HSs,by show _≤_;rw [HfN.out];simp⟩
   case round =>
    obtain ⟨S,a,out,HO,HZ,HC,HG,HI,HS,HF⟩:=hrel
    obtain ⟨adr,cc,hbx⟩:=HO.out.hp.cell0
    have p0:=hbx.cell
    have hla:=zeros_few HZ.out HS.out
    have hF:=HF.out
    have CL:=plen11_any adr a.length cc wr
    have x0:=HO.out.bx.cell 0 _ rfl
    have x1:=HO.out.bx.cell 1 _ rfl
    have x2:=HO.out.bx.cell 2 _ rfl
    have x3:=HO.out.bx.cell 3 _ rfl
    have x4:=HO.out.bx.cell 4 _ rfl
    by_cases ha:a=[]
    ·subst ha
     simp only [List.length_nil] at p0 CL
     have HNb:=Lib.hid (no_best nodes l S (fun x hx=>(HNum.out.2.1 x).1 (HS.out x hx)) HZ.out)
     have hCm:=HC.out
     unfold CMap at hCm
     have hkn:(N.filter S).Nodup:=by rw [List.nodup_iff_pairwise_ne];exact List.Pairwise.filter _ (List.nodup_iff_pairwise_ne.1 HNum.out.nodup)
     have hkm:∀ t,t∈N.filter S↔((cntF l S t).map cntV).isSome=true:=fun t=>by
      rw [List.mem_filter,Option.isSome_map]
      unfold cntF
      by_cases h:S t=true
      ·rw [if_pos h];simp [h,HS.out t h]
      ·rw [if_neg h];simp [h]
     have HB:Hid (Below w.heap.size w wr):=HbC.out.grown HG.out (by have:=HbC.out.size;omega) (fun j hj=>by cases hj;exact hm1)
     have hws:w.heap.size≤bw:=by have:=HbC.out.size;have:=Hbw.out;omega
     by_cases hleft:N.filter S=[]
     ·have HL:Hid (leftL nodes S=[]):=by
       show _=_
       unfold leftL
       rw [List.filter_eq_nil_iff] at hleft ⊢
       intro x hx
       exact hleft x ((HNum.out.2.1 x).2 hx)
      have HE:Hid (orderL nodes l=some out):=ordI_end nodes l out (by rw [← HL.out];exact HI.out)
      have hn0:(N.filter S).length=0:=by rw [hleft];rfl
      have HOw:=Lib.hid HO.out.ow
      clear hleft hbx hF hla
      go_wp2_with fail
      refine CL.mono ?_
      rintro e w1 ⟨rfl,rfl⟩
      go_wp2_with (at_len;refine wpl_len _ rfl _ tML rfl tC Tryz.underlying106 m1 _ _ rfl hCm (N.filter S) hkn hkm ?_)
      go_ret2
      rw [HE.out]
      refine ⟨_,rfl,HB.out,?_⟩
      show World.ownsRow _ _ _ _ _ out.length (recV intV out)
      rw [iV_rec]
      have:=HOw.out
      rcases this.2 with ⟨e1,e2⟩ | ⟨g,cp,cur,e1,e2,e3⟩
      ·exact ⟨this.1,.inl ⟨e1,e2⟩⟩
      ·exact ⟨this.1,.inr ⟨g,cp,cur,e1,by omega,e3⟩⟩
     ·have HNe:Hid (leftL nodes S≠[]):=by
       intro h
       apply hleft
       unfold leftL at h
       rw [List.filter_eq_nil_iff] at h ⊢
       intro x hx
       exact h x ((HNum.out.2.1 x).1 hx)
      have HE:Hid (orderL nodes l=none):=ordI_none nodes l _ out HI.out HNe.out HNb.out
      have hn0:0 < (N.filter S).length:=List.length_pos_iff.2 hleft
      have hn1:(0:Int) < ((N.filter S).length:Int):=by omega
      clear hleft hbx hF hla
      go_wp2_with fail
      refine CL.mono ?_
      rintro e w1 ⟨rfl,rfl⟩
      go_wp2_with (at_len;refine wpl_len _ rfl _ tML rfl tC Tryz.underlying106 m1 _ _ rfl hCm (N.filter S) hkn hkm ?_)
      go_ret2
      rw [HE.out]
      exact ⟨_,rfl,HB.out,World.ownsRow_nil _ _ _ _⟩
    ·have ha0:0 < a.length:=List.length_pos_iff.2 ha
     have ha1:(0:Int) < (a.length:Int):=by omega
     have hN9:=HNN.out
     have hff:(N.filter S).length≤N.length:=List.length_filter_le _ _
     have CP:=pleast11_any wr (bw+1) (bw+1) a HO.out.hp HO.out.hh ha0 (by omega)
     clear hbx ha
     go_wp2_with fail
     refine CL.mono ?_
     rintro e w1 ⟨rfl,rfl⟩
     go_wp2_with fail
     refine CP.mono ?_
     rintro e w2 ⟨⟨x,b,rfl,hb2,hpop⟩,fr2⟩
     obtain ⟨q1,q2,q3,q4⟩:=next_best nodes l S (fun x hx=>(HNum.out.2.1 x).1 (HS.out x hx)) a HZ.out x b hpop
     have hO2:=HO.out.fr fr2 hb2 hpop.1
     have HZ2:=Lib.hid (zeros_del l S a b x HZ.out hpop.2.1)
     have HC2:Hid (CMap w2 m1 17592186044416 (cntF l S)):=HC.out.bel fr2.bel (by omega)
     have HG2:Hid (Wc.grownBy w2 (some m1)):=⟨fr2.bel.os.trans HG.out.os,fr2.bel.tape.trans HG.out.tape,fr2.bel.output.trans HG.out.output,Nat.le_trans HG.out.size fr2.bel.size,fun q hq hne=>(fr2.bel.block q (by have:=Hbw.out;omega)).trans (HG.out.block q hq hne)⟩
     have hxN:x∈N:=HS.out x q2
     have hdl:=filter_drop_lt N S x hxN q2
     have HIn:Hid (ordI nodes l (leftL nodes (dropB S x)) (out++[x])):=by
      show ordI _ _ _ _
      rw [left_drop]
      exact ordI_next nodes l _ out x HI.out (fun e=>by rw [e] at q1;simp [bestL,minI] at q1) q1
     have HSn:Hid (∀ y,dropB S x y=true→y∈N):=fun y hy=>HS.out y (by unfold dropB at hy;simp at hy;exact hy.1)
     obtain ⟨ao,co,rfl⟩:=own_shape11 hO2.ow
     have HO2:=Lib.hid hO2
     have how:=hO2.ow
     have Hq2:=Lib.hid q2
     have Hq3:=Lib.hid q3
     obtain ⟨no,hno⟩:∃ no,out.length=no:=⟨_,rfl⟩
     have Hno:=Lib.hid hno
     rw [hno] at how hF
     rw [hno]
     have hsz2:bw+1≤w2.heap.size:=by have:=hO2.hp.lt;omega
     clear hO2 hb2 hpop q1 q2 q3 q4 hno x0 x1 x2 x3 x4 p0
     go_wp2_with (at_builtin;refine wpList_append_own_at _ rfl _ _ 23 rfl (bw+1) 3 i0 (.int .i64 0) 1 8 Tryz.underlying23 hi hz0 hz1 hz2 rfl (by decide) (.slice ao no co) _ _ rfl (how.alloc _) ⟨w2.heap.size,0,none⟩ 1 1 [.int .i64 x] rfl rfl ?a1 ?a2 ?a3 ?a4 ?a5 ?_)
     case a1=>intro j u hj;match j,hj with
      | 0,hj=>simp at hj;subst hj;simp [Addr.add]
     case a2=>intro u hu;simp at hu;subst hu;rfl
     case a3=>unfold maxLen;omega
     case a4=>omega
     case a5=>simp;omega
     intro r3 w3 hown3 hg3 _ hat3
     obtain ⟨a3,c3,rfl⟩:=own_shape11 hown3
     have B3:Below (bw+1) w2 w3:=((Below.refl (bw+1) w2).alloc hsz2 _).grown hg3 (by simp;omega) (fun j hj=>(how.lt j hj).1)
     have hC3:CMap w3 m1 17592186044416 (cntF l S):=HC2.out.bel B3 (by omega)
     have hG3:Wc.grownBy w3 (some m1):=⟨B3.os.trans HG2.out.os,B3.tape.trans HG2.out.tape,B3.output.trans HG2.out.output,Nat.le_trans HG2.out.size B3.size,fun q hq hne=>(B3.block q (by have:=Hbw.out;omega)).trans (HG2.out.block q hq hne)⟩
     rw [← Hno.out] at hown3 hg3 hat3
     have hO3:=HO2.out.order _ hown3 hg3 (by simpa using hat3)
     rw [Hno.out] at hO3
     have CT:=ptakeO_any Wc w3 l N (.slice al nl cl) (.slice aN nN cN) m1 m2 m3 HWeb.out S HS.out hC3 hG3 x Hq2.out Hq3.out bw (bw+1) Hbw.out rfl _ (out++[x]) b hO3 HZ2.out
     have y0:=hO3.bx.cell 0 _ rfl
     have y1:=hO3.bx.cell 1 _ rfl
     have y2:=hO3.bx.cell 2 _ rfl
     have y3:=hO3.bx.cell 3 _ rfl
     have y4:=hO3.bx.cell 4 _ rfl
     have HFn:Hid ((out++[x]).length+(N.filter (dropB S x)).length≤nN):=by
      show _≤_
      rw [List.length_append,Hno.out]
      simp only [List.length_singleton]
      omega
     clear hown3 hg3 hat3 hO3 hC3 hG3 B3 how
     go_wp2_with fail
     refine CT.mono ?_
     rintro e w4 ⟨rfl,⟨a4,hO4,hz4⟩,hc4,hg4⟩
     have HO4:=Lib.hid hO4
     have HZ4:=Lib.hid hz4
     have HC4:=Lib.hid hc4
     have HG4:=Lib.hid hg4
     clear hO4 hz4 hc4 hg4
     go_wp2_with fail
     refine ⟨⟨dropB S x,a4,out++[x],HO4,HZ4,HC4,HG4,HIn,HSn,HFn⟩,by have hno:=Hno.out;simp [slLen];omega⟩
def endsK (l:List Stp) (k:Nat):List Int:=(l.take k).flatMap fun s=>[s.1,s.2.1]
theorem endsK_next (l:List Stp) (k:Nat) (hk:k < l.length):endsK l (k+1)=endsK l k++[(stA l k).1,(stA l k).2.1]:=by
 unfold endsK
 rw [List.take_succ_eq_append_getElem hk,List.flatMap_append,stA_at l k hk]
 simp
theorem endsK_len (l:List Stp) (k:Nat) (hk:k≤l.length):(endsK l k).length=2*k:=by
 induction k with
 | zero=>rfl
 | succ k ih=>rw [endsK_next l k (by omega),List.length_append,ih (by omega)];simp;omega
set_option maxHeartbeats 4000000 in
theorem pends11_any (l:List Stp) (vl:Value) (w:World) (hT:IsSts w vl l) (hl:l.length≤3518437208780):Calls Tryz.prog 83 #[vl] w fun e w'=>NRow w (nodesL l) e w':=by
 obtain ⟨i0,hi,hz0,hz1,hz2⟩:=info_parts int_info
 obtain ⟨al,cl,rfl,p1,p2,p3,HL⟩:=hT.reads
 obtain ⟨nl,hnl⟩:∃ nl,l.length=nl:=⟨_,rfl⟩
 have HNl:=Lib.hid hnl
 rw [hnl] at p1 p3 hl
 rw [hnl]
 clear hT hnl
 go_enter Tryz.func83,Tryz.ntmps83
 go_wp2_with fail
 go_loopw [3,8] (fun v i wr=>∃ k:Nat,k≤nl∧i=.int .i64 (k:Int)∧Hid (wr.ownsRow w.heap.size 3 1 v (2*k) (iV (endsK l k)))∧Below w.heap.size w wr) (fun _ i _=>nl - (intOf i).toNat)
 case atStart=>exact ⟨0,Nat.zero_le _,rfl,World.ownsRow_nil _ _ _ _,Below.refl _ _⟩
 case round =>
  obtain ⟨k,hk,rfl,HR,hB⟩:=hrel
  by_cases hlt:k < nl
  ·have j0:(k:Int) < (nl:Int):=by omega
   have hkl:k < l.length:=by have:=HNl.out;omega
   obtain ⟨bL,oL,rfl,u,hE,HQ⟩:=HL.out k hkl
   obtain ⟨c0,c1,c2⟩:=HQ wr hB
   have es:=stA_at l k hkl
   rw [← es] at c0 c1
   obtain ⟨ua,uc,rfl,_⟩:=hE.some_at
   have hx2:=endsK_next l k hkl
   obtain ⟨x,hx⟩:∃ x,(stA l k).1=x:=⟨_,rfl⟩
   obtain ⟨y,hy⟩:∃ y,(stA l k).2.1=y:=⟨_,rfl⟩
   obtain ⟨un,hun⟩:∃ un,l[k].2.2.length=un:=⟨_,rfl⟩
   rw [hun] at c2
   rw [hx] at c0
   rw [hy] at c1
   rw [hx,hy] at hx2
   have Hx2:=Lib.hid hx2
   have XS:=SBox.new wr tSt #[.int .i64 x,.int .i64 y,.slice ua un uc]
   have s0:=XS.cell 0 _ rfl
   have s1:=XS.cell 1 _ rfl
   have BE:=hB.alloc hB.size (.cells #[.int .i64 x,.int .i64 y,.slice ua un uc] tSt)
   obtain ⟨wE,hwE⟩:∃ wE,wr.alloc (.cells #[.int .i64 x,.int .i64 y,.slice ua un uc] tSt)=wE:=⟨_,rfl⟩
   have hrow:=HR.out.alloc (.cells #[.int .i64 x,.int .i64 y,.slice ua un uc] tSt)
   rw [hwE] at hrow BE s0 s1
   obtain ⟨bs,hbs⟩:∃ bs,wr.heap.size=bs:=⟨_,rfl⟩
   rw [hbs] at s0 s1
   obtain ⟨ad,cc,hsh⟩:=own_shape11 HR.out
   subst hsh
   have hsE:=BE.size
   clear es hx hy hun hx2 HQ hE XS
   go_wp2_with (at_builtin;refine wpList_append_own_at _ rfl _ _ 23 rfl w.heap.size 3 i0 (.int .i64 0) 1 8 Tryz.underlying23 hi hz0 hz1 hz2 rfl (by decide) (.slice ad (2*k) cc) _ _ rfl (hrow.alloc _) ⟨wE.heap.size,0,none⟩ 2 2 [.int .i64 x,.int .i64 y] rfl rfl ?a1 ?a2 ?a3 ?a4 ?a5 ?_)
   case a1=>intro j u hj;match j,hj with
    | 0,hj=>simp at hj;subst hj;simp [Addr.add]
    | 1,hj=>simp at hj;subst hj;simp [Addr.add]
   case a2=>intro u hu;simp at hu;rcases hu with rfl | rfl<;>rfl
   case a3=>unfold maxLen;omega
   case a4=>omega
   case a5=>simp;omega
   intro r3 w3 hown3 hg3 _ hat3
   have B3:Below w.heap.size w w3:=(BE.alloc hsE _).grown hg3 (by simp;omega) (fun j hj=>(hrow.lt j hj).1)
   have HR3:Hid (w3.ownsRow w.heap.size 3 1 r3 (2*(k+1)) (iV (endsK l (k+1)))):=by
    show World.ownsRow _ _ _ _ _ _ _
    rw [Hx2.out,iV_app,show 2*(k+1)=2*k+2 by omega]
    exact hown3
   clear hown3 hat3 hg3
   go_wp2_with fail
   refine ⟨⟨k+1,by omega,by first | go_num | simp,HR3,B3⟩,by simp [intOf];omega⟩
  ·obtain rfl:nl=k:=by omega
   have jq:¬ (nl:Int) < (nl:Int):=by omega
   have HE:Hid (endsK l nl=nodesL l):=by show _=_;rw [← HNl.out];unfold endsK nodesL;rw [List.take_length]
   have HLn:Hid ((nodesL l).length=2*nl):=by
    show _=_
    rw [← HE.out,← HNl.out]
    exact endsK_len l l.length (Nat.le_refl _)
   go_wp2_with fail
   go_ret
   refine ⟨_,rfl,hB,?_⟩
   rw [HLn.out,← HE.out]
   exact HR.out
abbrev tI:TypeId:=23
def VrS (W:World) (B bv:Nat) (a:List Int):Prop:=B≤bv∧∃ v,Boxed W bv tI v∧W.ownsRow B 3 1 v a.length (iV a)
theorem VrS.bel {W W':World} {B bv:Nat} {a:List Int} (h:VrS W B bv a) (hb:Below W.heap.size W W'):VrS W' B bv a:=by
 obtain ⟨h0,v,h1,h2⟩:=h
 exact ⟨h0,v,(hb.block bv h1.lt).trans h1,h2.kept (grown_below8 none hb) (by cases v.ownBlock<;>simp)⟩
theorem VrS.lt {W:World} {B bv:Nat} {a:List Int} (h:VrS W B bv a):bv < W.heap.size:=by obtain ⟨_,v,hb,_⟩:=h;exact hb.lt
theorem VrS.vb {W:World} {B bv:Nat} {a:List Int} (h:VrS W B bv a) {b:Nat} {t:TypeId} {cs:Array Value} (hb:SBox W b t cs) (ht:t≠3):some b≠vblk W bv:=by
 obtain ⟨_,v,hbx,hrow⟩:=h
 rw [vblk_of hbx]
 exact block_not_row hb ht hrow
theorem VrS.turn {W W':World} {B bv m1:Nat} {a:List Int} (h:VrS W B bv a) (hg:W.grownBy W' (some m1)) (hm:m1 < B):VrS W' B bv a:=by
 obtain ⟨hB,v,hbx,hrow⟩:=h
 exact ⟨hB,v,hbx.kept hg (fun e=>by have:=Option.some.inj e;omega),hrow.kept hg (own_off hrow hm)⟩
set_option maxHeartbeats 2000000 in
theorem pappR_any (W:World) (B bv:Nat) (a:List Int) (x:Int) (h:VrS W B bv a) (hn:a.length < 17592186044416) :
 Calls Tryz.prog 88 #[.int .i64 x,.pointer (some ⟨bv,0,none⟩)] W fun e W'=>e=.returned (.tuple #[])∧VrS W' B bv (a++[x])∧Fr B bv W W':=by
 obtain ⟨i0,hi,hz0,hz1,hz2⟩:=info_parts int_info
 obtain ⟨hB,v,hb,hrow⟩:=h
 have hlt:=hb.lt
 have hne:=block_not_row hb (by decide) hrow
 have HHb:=Lib.hid hb
 have HHr:=Lib.hid hrow
 obtain ⟨ad,c,rfl⟩:=own_shape11 hrow
 obtain ⟨n,hnn⟩:∃ n,a.length=n:=⟨_,rfl⟩
 have HN:Hid (a.length=n):=hnn
 have p0:=hb.cell
 rw [hnn] at hrow hn p0 hne
 clear hnn hb
 go_enter Tryz.func88,Tryz.ntmps88
 go_wp2_with (at_builtin;refine wpList_append_own_at _ rfl _ _ 23 rfl B 3 i0 (.int .i64 0) 1 8 Tryz.underlying23 hi hz0 hz1 hz2 rfl (by decide) (.slice ad n c) _ _ rfl (hrow.alloc _) ⟨W.heap.size,0,none⟩ 1 1 [.int .i64 x] rfl rfl ?a1 ?a2 ?a3 ?a4 ?a5 ?_)
 case a1=>intro j u hj;match j,hj with
  | 0,hj=>simp at hj;subst hj;simp [Addr.add]
 case a2=>intro u hu;simp at hu;subst hu;rfl
 case a3=>unfold maxLen;omega
 case a4=>omega
 case a5=>simp;omega
 intro r3 w3 hown3 hg3 _ hat3
 obtain ⟨ad3,c3,rfl⟩:=own_shape11 hown3
 have hbA:Boxed (W.alloc (.cells #[.int .i64 x] 3)) bv tI (.slice ad n c):=by have:=HHb.out.alloc (.cells #[.int .i64 x] 3);rw [HN.out] at this;exact this
 have hb3:Boxed w3 bv tI (.slice ad n c):=(hg3.block bv hbA.lt hne).trans hbA
 have B3:Fr B bv W w3:=((Fr.refl B bv W).alloc (by omega) hlt _).row (hrow.alloc _) hbA (by decide) hg3 (by simp;omega)
 have p3:=hb3.cell
 have f3:=hb3.frozen
 have HB3:=Lib.hid hb3
 clear hbA hb3
 go_wp2_with fail
 go_end0
 have hne3:(Value.slice ad3 (n+1) c3).ownBlock≠some bv:=fun e=>by
  rcases hat3 with e1 | e1
  ·exact hne (by rw [← e1,e])
  ·rw [e] at e1;have e3:=Option.some.inj e1;(try simp at e3);omega
 refine ⟨rfl,⟨hB,_,HB3.out.set _,?_⟩,B3.set hB HB3.out _ (by
  have hb9:=HHb.out
  rw [HN.out] at hb9
  rw [vblk_of hb9]
  rcases hat3 with e1 | e1
  ·exact .inl e1
  ·exact .inr ⟨_,e1,by first | (simp;done) | omega⟩)⟩
 rw [List.length_append,HN.out,iV_app]
 exact owns_keep7 hown3 _ (fun e=>hne3 e.symm)
theorem enters_pappR:∀ args V,(callFunc 88 args).run Tryz.prog V=.ok (.enter 88 args) V:=enters_of Tryz.func88 (by kernel_rfl) rfl
set_option maxHeartbeats 2000000 in
theorem pappS_any (W:World) (B bv:Nat) (a:List Int) (x:Int) (h:VrS W B bv a) (hn:a.length < 17592186044416) :
 Calls Tryz.prog 113 #[.int .i64 x,.pointer (some ⟨bv,0,none⟩)] W fun e W'=>e=.returned (.tuple #[])∧VrS W' B bv (a++[x])∧Fr B bv W W':=by
 obtain ⟨i0,hi,hz0,hz1,hz2⟩:=info_parts int_info
 obtain ⟨hB,v,hb,hrow⟩:=h
 have hlt:=hb.lt
 have hne:=block_not_row hb (by decide) hrow
 have HHb:=Lib.hid hb
 have HHr:=Lib.hid hrow
 obtain ⟨ad,c,rfl⟩:=own_shape11 hrow
 obtain ⟨n,hnn⟩:∃ n,a.length=n:=⟨_,rfl⟩
 have HN:Hid (a.length=n):=hnn
 have p0:=hb.cell
 rw [hnn] at hrow hn p0 hne
 clear hnn hb
 go_enter Tryz.func113,Tryz.ntmps113
 go_wp2_with (at_builtin;refine wpList_append_own_at _ rfl _ _ 23 rfl B 3 i0 (.int .i64 0) 1 8 Tryz.underlying23 hi hz0 hz1 hz2 rfl (by decide) (.slice ad n c) _ _ rfl (hrow.alloc _) ⟨W.heap.size,0,none⟩ 1 1 [.int .i64 x] rfl rfl ?a1 ?a2 ?a3 ?a4 ?a5 ?_)
 case a1=>intro j u hj;match j,hj with
  | 0,hj=>simp at hj;subst hj;simp [Addr.add]
 case a2=>intro u hu;simp at hu;subst hu;rfl
 case a3=>unfold maxLen;omega
 case a4=>omega
 case a5=>simp;omega
 intro r3 w3 hown3 hg3 _ hat3
 obtain ⟨ad3,c3,rfl⟩:=own_shape11 hown3
 have hbA:Boxed (W.alloc (.cells #[.int .i64 x] 3)) bv tI (.slice ad n c):=by have:=HHb.out.alloc (.cells #[.int .i64 x] 3);rw [HN.out] at this;exact this
 have hb3:Boxed w3 bv tI (.slice ad n c):=(hg3.block bv hbA.lt hne).trans hbA
 have B3:Fr B bv W w3:=((Fr.refl B bv W).alloc (by omega) hlt _).row (hrow.alloc _) hbA (by decide) hg3 (by simp;omega)
 have p3:=hb3.cell
 have f3:=hb3.frozen
 have HB3:=Lib.hid hb3
 clear hbA hb3
 go_wp2_with fail
 go_end0
 have hne3:(Value.slice ad3 (n+1) c3).ownBlock≠some bv:=fun e=>by
  rcases hat3 with e1 | e1
  ·exact hne (by rw [← e1,e])
  ·rw [e] at e1;have e3:=Option.some.inj e1;(try simp at e3);omega
 refine ⟨rfl,⟨hB,_,HB3.out.set _,?_⟩,B3.set hB HB3.out _ (by
  have hb9:=HHb.out
  rw [HN.out] at hb9
  rw [vblk_of hb9]
  rcases hat3 with e1 | e1
  ·exact .inl e1
  ·exact .inr ⟨_,e1,by first | (simp;done) | omega⟩)⟩
 rw [List.length_append,HN.out,iV_app]
 exact owns_keep7 hown3 _ (fun e=>hne3 e.symm)
theorem enters_pappS:∀ args V,(callFunc 113 args).run Tryz.prog V=.ok (.enter 113 args) V:=enters_of Tryz.func113 (by kernel_rfl) rfl
theorem ptakeR_any (Wc W:World) (l:List Stp) (N:List Int) (vl vn:Value) (m1 m2 m3:Nat) (hw:Web Wc l N vl vn m1 m2 m3) (S:Int→Bool) (hS:∀ y,S y=true→y∈N) (hM:CMap W m1 17592186044416 (cntF l S)) (hg:Wc.grownBy W (some m1)) (x:Int) (hxS:S x=true)
 (B bv:Nat) (hB:Wc.heap.size≤B) (a:List Int) (hV:VrS W B bv a) (I:World→Prop) (hI0:I W) (hIk:∀ V V',I V→V.grownBy V' (some m1)→I V') (hIf:∀ V V' a,I V→VrS V B bv a→Fr B bv V V'→I V') (M:Nat) (hM9:M≤17592186044416) (hla:a.length+(outX l (inN N) x).length+(inX l (inN N) x).length≤M) (okA:∀ y∈a,y∈N) :
 Calls Tryz.prog 80 #[webV vl vn m1 m2 m3,.int .i64 x,.func (.func 88) #[] #[.pointer (some ⟨bv,0,none⟩)]] W fun e V'=>e=.returned (.tuple #[])∧(∃ a',VrS V' B bv a'∧a'.length≤a.length+(outX l (inN N) x).length+(inX l (inN N) x).length∧∀ y∈a',y∈N)∧I V'∧CMap V' m1 17592186044416 (cntF l (dropB S x))∧Wc.grownBy V' (some m1):=by
 have hm1:=isMap_lt hw.isM
 have hS0:∀ y,S y=true→inN N y=true:=fun y hy=>by unfold inN;simpa using hS y hy
 have hout':∀ y∈outX l (inN N) x,y∈N:=fun y hm=>by
  unfold outX at hm
  obtain ⟨j,hj,e⟩:=List.mem_map.1 hm
  have:=((fr_mem l (inN N) x j).1 hj).2.2.2
  rw [← e]
  unfold inN at this
  simpa using this
 have hout:∀ i (hi:i < (outX l (inN N) x).length),(outX l (inN N) x)[i]∈N:=fun i hi=>hout' _ (List.getElem_mem hi)
 have hin':∀ y∈inX l (inN N) x,y∈N:=fun y hm=>by
  unfold inX at hm
  obtain ⟨j,hj,e⟩:=List.mem_map.1 hm
  have:=((to_mem l (inN N) x j).1 hj).2.2.1
  rw [← e]
  unfold inN at this
  simpa using this
 have hin:∀ i (hi:i < (inX l (inN N) x).length),(inX l (inN N) x)[i]∈N:=fun i hi=>hin' _ (List.getElem_mem hi)
 refine (ptake11_any Wc W l N vl vn m1 m2 m3 17592186044416 hw (cntF l S) hM (by omega) hg x (hw.okN x (hS x hxS)) (bnd_cntF l S) 88 enters_pappR #[.pointer (some ⟨bv,0,none⟩)] bv hV.lt
  (fun i V=>(∃ a',VrS V B bv a'∧a'.length≤a.length+i∧∀ y∈a',y∈N)∧I V)
  (fun i V=>(∃ a',VrS V B bv a'∧a'.length≤a.length+(outX l (inN N) x).length+i∧∀ y∈a',y∈N)∧I V)
  ⟨⟨a,hV,by omega,okA⟩,hI0⟩ ?b1 ?k1 ?c1 ?s1 ?j ?b2 ?k2 ?c2 ?s2).mono ?_
 case b1=>rintro i V bb cs ⟨⟨a',hA,_⟩,_⟩ hb;exact hA.vb hb (by decide)
 case b2=>rintro i V bb cs ⟨⟨a',hA,_⟩,_⟩ hb;exact hA.vb hb (by decide)
 case k1=>rintro i V V' ⟨⟨a',hA,h1,h2⟩,hI⟩ hg;exact ⟨⟨a',hA.turn hg (by omega),h1,h2⟩,hIk _ _ hI hg⟩
 case k2=>rintro i V V' ⟨⟨a',hA,h1,h2⟩,hI⟩ hg;exact ⟨⟨a',hA.turn hg (by omega),h1,h2⟩,hIk _ _ hI hg⟩
 case s1=>rintro i hi V hn ⟨⟨a',hA,h1,h2⟩,hI⟩;exact ⟨⟨a',hA,by omega,h2⟩,hI⟩
 case s2=>rintro i hi V hn ⟨⟨a',hA,h1,h2⟩,hI⟩;exact ⟨⟨a',hA,by omega,h2⟩,hI⟩
 case j=>rintro V ⟨⟨a',hA,h1,h2⟩,hI⟩;exact ⟨⟨a',hA,by omega,h2⟩,hI⟩
 case c1 =>
  rintro i hi V hgV hsz his ⟨⟨a',hA,h1,h2⟩,hI⟩ hMV
  refine (pappR_any V B bv a' (outX l (inN N) x)[i] hA (by omega)).mono ?_
  rintro e V' ⟨he,hA',fr⟩
  refine ⟨he,⟨⟨_,hA',by rw [List.length_append];simp;omega,fun y hy=>?_⟩,hIf _ _ _ hI hA fr⟩,fr.mono hB⟩
  rcases List.mem_append.1 hy with hy | hy
  ·exact h2 y hy
  ·rw [List.mem_singleton] at hy;rw [hy];exact hout i hi
 case c2 =>
  rintro i hi V hgV hsz his ⟨⟨a',hA,h1,h2⟩,hI⟩ hMV
  refine (pappR_any V B bv a' (inX l (inN N) x)[i] hA (by omega)).mono ?_
  rintro e V' ⟨he,hA',fr⟩
  refine ⟨he,⟨⟨_,hA',by rw [List.length_append];simp;omega,fun y hy=>?_⟩,hIf _ _ _ hI hA fr⟩,fr.mono hB⟩
  rcases List.mem_append.1 hy with hy | hy
  ·exact h2 y hy
  ·rw [List.mem_singleton] at hy;rw [hy];exact hin i hi
 ·rintro e V' ⟨he,⟨hA,hI⟩,hc,hg⟩
  rw [takeF_is l (inN N) S x hxS hS0] at hc
  exact ⟨he,hA,hI,hc,hg⟩
theorem ptakeS_any (Wc W:World) (l:List Stp) (N:List Int) (vl vn:Value) (m1 m2 m3:Nat) (hw:Web Wc l N vl vn m1 m2 m3) (S:Int→Bool) (hS:∀ y,S y=true→y∈N) (hM:CMap W m1 17592186044416 (cntF l S)) (hg:Wc.grownBy W (some m1)) (x:Int) (hxS:S x=true)
 (B bv:Nat) (hB:Wc.heap.size≤B) (a:List Int) (hV:VrS W B bv a) (I:World→Prop) (hI0:I W) (hIk:∀ V V',I V→V.grownBy V' (some m1)→I V') (hIf:∀ V V' a,I V→VrS V B bv a→Fr B bv V V'→I V') (M:Nat) (hM9:M≤17592186044416) (hla:a.length+(outX l (inN N) x).length+(inX l (inN N) x).length≤M) (okA:∀ y∈a,y∈N) :
 Calls Tryz.prog 80 #[webV vl vn m1 m2 m3,.int .i64 x,.func (.func 113) #[] #[.pointer (some ⟨bv,0,none⟩)]] W fun e V'=>e=.returned (.tuple #[])∧(∃ a',VrS V' B bv a'∧a'.length≤a.length+(outX l (inN N) x).length+(inX l (inN N) x).length∧∀ y∈a',y∈N)∧I V'∧CMap V' m1 17592186044416 (cntF l (dropB S x))∧Wc.grownBy V' (some m1):=by
 have hm1:=isMap_lt hw.isM
 have hS0:∀ y,S y=true→inN N y=true:=fun y hy=>by unfold inN;simpa using hS y hy
 have hout':∀ y∈outX l (inN N) x,y∈N:=fun y hm=>by
  unfold outX at hm
  obtain ⟨j,hj,e⟩:=List.mem_map.1 hm
  have:=((fr_mem l (inN N) x j).1 hj).2.2.2
  rw [← e]
  unfold inN at this
  simpa using this
 have hout:∀ i (hi:i < (outX l (inN N) x).length),(outX l (inN N) x)[i]∈N:=fun i hi=>hout' _ (List.getElem_mem hi)
 have hin':∀ y∈inX l (inN N) x,y∈N:=fun y hm=>by
  unfold inX at hm
  obtain ⟨j,hj,e⟩:=List.mem_map.1 hm
  have:=((to_mem l (inN N) x j).1 hj).2.2.1
  rw [← e]
  unfold inN at this
  simpa using this
 have hin:∀ i (hi:i < (inX l (inN N) x).length),(inX l (inN N) x)[i]∈N:=fun i hi=>hin' _ (List.getElem_mem hi)
 refine (ptake11_any Wc W l N vl vn m1 m2 m3 17592186044416 hw (cntF l S) hM (by omega) hg x (hw.okN x (hS x hxS)) (bnd_cntF l S) 113 enters_pappS #[.pointer (some ⟨bv,0,none⟩)] bv hV.lt
  (fun i V=>(∃ a',VrS V B bv a'∧a'.length≤a.length+i∧∀ y∈a',y∈N)∧I V)
  (fun i V=>(∃ a',VrS V B bv a'∧a'.length≤a.length+(outX l (inN N) x).length+i∧∀ y∈a',y∈N)∧I V)
  ⟨⟨a,hV,by omega,okA⟩,hI0⟩ ?b1 ?k1 ?c1 ?s1 ?j ?b2 ?k2 ?c2 ?s2).mono ?_
 case b1=>rintro i V bb cs ⟨⟨a',hA,_⟩,_⟩ hb;exact hA.vb hb (by decide)
 case b2=>rintro i V bb cs ⟨⟨a',hA,_⟩,_⟩ hb;exact hA.vb hb (by decide)
 case k1=>rintro i V V' ⟨⟨a',hA,h1,h2⟩,hI⟩ hg;exact ⟨⟨a',hA.turn hg (by omega),h1,h2⟩,hIk _ _ hI hg⟩
 case k2=>rintro i V V' ⟨⟨a',hA,h1,h2⟩,hI⟩ hg;exact ⟨⟨a',hA.turn hg (by omega),h1,h2⟩,hIk _ _ hI hg⟩
 case s1=>rintro i hi V hn ⟨⟨a',hA,h1,h2⟩,hI⟩;exact ⟨⟨a',hA,by omega,h2⟩,hI⟩
 case s2=>rintro i hi V hn ⟨⟨a',hA,h1,h2⟩,hI⟩;exact ⟨⟨a',hA,by omega,h2⟩,hI⟩
 case j=>rintro V ⟨⟨a',hA,h1,h2⟩,hI⟩;exact ⟨⟨a',hA,by omega,h2⟩,hI⟩
 case c1 =>
  rintro i hi V hgV hsz his ⟨⟨a',hA,h1,h2⟩,hI⟩ hMV
  refine (pappS_any V B bv a' (outX l (inN N) x)[i] hA (by omega)).mono ?_
  rintro e V' ⟨he,hA',fr⟩
  refine ⟨he,⟨⟨_,hA',by rw [List.length_append];simp;omega,fun y hy=>?_⟩,hIf _ _ _ hI hA fr⟩,fr.mono hB⟩
  rcases List.mem_append.1 hy with hy | hy
  ·exact h2 y hy
  ·rw [List.mem_singleton] at hy;rw [hy];exact hout i hi
 case c2 =>
  rintro i hi V hgV hsz his ⟨⟨a',hA,h1,h2⟩,hI⟩ hMV
  refine (pappS_any V B bv a' (inX l (inN N) x)[i] hA (by omega)).mono ?_
  rintro e V' ⟨he,hA',fr⟩
  refine ⟨he,⟨⟨_,hA',by rw [List.length_append];simp;omega,fun y hy=>?_⟩,hIf _ _ _ hI hA fr⟩,fr.mono hB⟩
  rcases List.mem_append.1 hy with hy | hy
  ·exact h2 y hy
  ·rw [List.mem_singleton] at hy;rw [hy];exact hin i hi
 ·rintro e V' ⟨he,⟨hA,hI⟩,hc,hg⟩
  rw [takeF_is l (inN N) S x hxS hS0] at hc
  exact ⟨he,hA,hI,hc,hg⟩
end Go.Proofs.YtiihegldhnlleaaGreat
namespace Go.Proofs.YtiihegldhnlleaaGreat
set_option maxRecDepth 100000
open Go.RowKit Go.Maps
set_option linter.unusedVariables false
attribute [local go_sem] ba_size
abbrev tMM:TypeId:=97
def awV (Q:List (Int × Nat)):Int→Option Value:=fun x=>(aw Q x).map fun (d:Nat)=>Value.int .i64 (d:Int)
theorem zeroI (w:World):(zeroValue 3).run Tryz.prog w=.ok (.int .i64 0) w:=by kernel_rfl
structure ShS (V0 V:World) (b0:Nat) (cs:Array Value) (Q:List (Int × Nat)):Prop where
 bl:Below V0.heap.size V0 V
 s0:V0.heap.size=b0
 bx:SBox V b0 tW cs
 ab:Boxed V (b0+1+1) tMM (.map (some (b0+1)))
 am:VMap V (b0+1) Q.length (awV Q)
 vr:VrS V (b0+1+1+1) (b0+1+1+1) (Q.map (·.1))
section
variable {V0 V V':World} {b0:Nat} {cs:Array Value} {Q:List (Int × Nat)}
theorem ShS.bel (h:ShS V0 V b0 cs Q) (hb:Below V.heap.size V V'):ShS V0 V' b0 cs Q :=
 ⟨bel_trans h.bl hb,h.s0,h.bx.below hb,(hb.block _ h.ab.lt).trans h.ab,h.am.bel hb h.am.lt,h.vr.bel hb⟩
theorem awV_push (Q:List (Int × Nat)) (x:Int) (d:Nat) (h:aw Q x=none):awV (Q++[(x,d)])=updV (awV Q) x (.int .i64 (d:Int)):=by
 funext u
 unfold awV updV
 rw [aw_push Q x d h]
 simp only
 by_cases e:u=x
 ·rw [if_pos e,if_pos e];rfl
 ·rw [if_neg e,if_neg e]
end
def reachQ (S:Int→Bool) (Q:List (Int × Nat)) (x:Int) (d:Nat):List (Int × Nat):=if aw Q x=none∧S x=true then Q++[(x,d)] else Q
set_option maxHeartbeats 4000000 in
theorem preach11_any (V0 V:World) (vl vn:Value) (m1 m2 m3 nb b0:Nat) (S:Int→Bool) (c:Cnt) (hcS:∀ y,(c y).isSome=S y) (Q:List (Int × Nat)) (hS:ShS V0 V b0 (webC vl vn m1 m2 m3) Q) (hM:CMap V m1 nb c) (x:Int) (hx:I64 x) (d:Nat) (hQ:Q.length < 17592186043904) (hsl:∃ a n c,vl=.slice a n c) (hsn:∃ a n c,vn=.slice a n c) :
 Calls Tryz.prog 114 #[.int .i64 x,.int .i64 (d:Int),.pointer (some ⟨b0+1+1,0,none⟩),.pointer (some ⟨b0,0,none⟩),.pointer (some ⟨b0+1+1+1,0,none⟩)] V fun e V'=>e=.returned (.tuple #[])∧ShS V0 V' b0 (webC vl vn m1 m2 m3) (reachQ S Q x d):=by
 obtain ⟨i0,hi,hz0,hz1,hz2⟩:=info_parts int_info
 obtain ⟨la,ln,lc,rfl⟩:=hsl
 obtain ⟨na,nn,nc,rfl⟩:=hsn
 have HS:=Lib.hid hS
 have p0:=hS.ab.cell
 have ham:=hS.am
 cases hq:aw Q x with
 | some d0 =>
   have hR:reachQ S Q x d=Q:=by unfold reachQ;rw [if_neg (by rw [hq];rintro ⟨h,_⟩;cases h)]
   rw [hR]
   have hv:(awV Q x).getD (.int .i64 0)=.int .i64 (d0:Int):=by unfold awV;rw [hq];rfl
   have his:(awV Q x).isSome=true:=by unfold awV;rw [hq];rfl
   clear hS hq hR
   go_enter Tryz.func114,Tryz.ntmps114
   go_wp2_with (at_lookup;refine wpl_look_ok _ rfl _ _ tMM rfl 3 Tryz.underlying97 (zeroI _) (b0+1) _ _ rfl ham x hx rfl _ hv true his ?_)
   go_end0
   exact ⟨rfl,HS.out⟩
 | none =>
   have hv:(awV Q x).getD (.int .i64 0)=.int .i64 0:=by unfold awV;rw [hq];rfl
   have his:(awV Q x).isSome=false:=by unfold awV;rw [hq];rfl
   have x0:=hS.bx.cell 0 _ rfl
   have x1:=hS.bx.cell 1 _ rfl
   have x2:=hS.bx.cell 2 _ rfl
   have x3:=hS.bx.cell 3 _ rfl
   have x4:=hS.bx.cell 4 _ rfl
   have CH:=fun (bo:Bool) (hbo:(c x).isSome=bo)=>phas11_any (.slice la ln lc) (.slice na nn nc) m1 m2 m3 nb c x V hx hM bo hbo
   cases hSx:S x with
   | false =>
     have hR:reachQ S Q x d=Q:=by unfold reachQ;rw [if_neg (by rw [hSx];rintro ⟨_,h⟩;cases h)]
     rw [hR]
     have CH1:=CH false (by rw [hcS,hSx])
     clear hS hq hR CH hSx
     go_enter Tryz.func114,Tryz.ntmps114
     go_wp2_with (at_lookup;refine wpl_look_ok _ rfl _ _ tMM rfl 3 Tryz.underlying97 (zeroI _) (b0+1) _ _ rfl ham x hx rfl _ hv false his ?_)
     refine CH1.mono ?_
     rintro e w1 ⟨rfl,b1⟩
     have HS1:=Lib.hid (HS.out.bel b1)
     go_wp2_with fail
     go_end0
     exact ⟨rfl,HS1.out⟩
   | true =>
     have hR:reachQ S Q x d=Q++[(x,d)]:=by unfold reachQ;rw [if_pos ⟨hq,hSx⟩]
     rw [hR]
     have HAw:=Lib.hid (awV_push Q x d hq)
     have CH1:=CH true (by rw [hcS,hSx])
     clear hS hq hR CH hSx
     go_enter Tryz.func114,Tryz.ntmps114
     go_wp2_with (at_lookup;refine wpl_look_ok _ rfl _ _ tMM rfl 3 Tryz.underlying97 (zeroI _) (b0+1) _ _ rfl ham x hx rfl _ hv false his ?_)
     refine CH1.mono ?_
     rintro e w1 ⟨rfl,b1⟩
     have hS1:=HS.out.bel b1
     have HS1:=Lib.hid hS1
     have q0:=hS1.ab.cell
     have ham1:=hS1.am
     clear hS1
     have hlQ:(Q.map (·.1)).length=Q.length:=List.length_map ..
     obtain ⟨nq,hnq⟩:∃ nq,Q.length=nq:=⟨_,rfl⟩
     have Hnq:=Lib.hid hnq
     have HlQ:=Lib.hid hlQ
     rw [hnq] at ham1 hQ
     clear hlQ hnq
     go_wp2_with (first
      | (at_mapUpdate;refine wpl_store _ rfl _ _ _ tMM rfl 3 Tryz.underlying97 (b0+1) _ _ rfl ham1 (by omega) x hx rfl (.int .i64 (d:Int)) rfl ?_;intro w2 hm2 hg2
         have hvr2:VrS w2 (b0+1+1+1) (b0+1+1+1) (Q.map (·.1)):=HS1.out.vr.turn hg2 (by omega)
         obtain ⟨hB,vv,hbx,hrow⟩:=hvr2
         obtain ⟨ad,cc,hsh⟩:=own_shape11 hrow
         rw [HlQ.out,Hnq.out] at hsh hrow
         subst hsh
         have r0:=hbx.cell
         have hbl2:=hbx.lt)
      | (at_builtin;refine wpList_append_own_at _ rfl _ _ 23 rfl (b0+1+1+1) 3 i0 (.int .i64 0) 1 8 Tryz.underlying23 hi hz0 hz1 hz2 rfl (by decide) (.slice ad nq cc) _ _ rfl (hrow.alloc _) ⟨w2.heap.size,0,none⟩ 1 1 [.int .i64 x] rfl rfl ?a1 ?a2 ?a3 ?a4 ?a5 ?_))
     case a1=>intro j u hj;match j,hj with
      | 0,hj=>simp at hj;subst hj;simp [Addr.add]
     case a2=>intro u hu;simp at hu;subst hu;rfl
     case a3=>unfold maxLen;omega
     case a4=>omega
     case a5=>simp;omega
     intro r3 w3 hown3 hg3 _ hat3
     obtain ⟨ad3,c3,rfl⟩:=own_shape11 hown3
     have hneb:=block_not_row hbx (by decide) hrow
     have hbA:=hbx.alloc (.cells #[.int .i64 x] 3)
     have hb3:Boxed w3 (b0+1+1+1) tI (.slice ad nq cc):=(hg3.block _ hbA.lt hneb).trans hbA
     have p3:=hb3.cell
     have f3:=hb3.frozen
     have HB3:=Lib.hid hb3
     have Hrow:=Lib.hid hrow
     have Hneb:=Lib.hid hneb
     have Hhat:=Lib.hid hat3
     have Hown:=Lib.hid hown3
     have Hg3:=Lib.hid hg3
     have Hg2:=Lib.hid hg2
     have Hm2:=Lib.hid hm2
     clear hbA hb3 hbx hrow hneb hat3 hown3 hg3 hg2 hm2
     go_wp2_with fail
     go_end0
     refine ⟨rfl,?_⟩
     have hs0:=HS1.out.s0
     have hbl1:=HS1.out.bl.size
     have hs2:=Hg2.out.size
     have off:∀ m,m < b0+1+1+1→some m≠(Value.slice ad nq cc).ownBlock:=fun m hm e=>by have:=(Hrow.out.lt m e.symm).1;omega
     have blk:∀ m,m < b0+1+1+1→m < w2.heap.size→(w3.setCell ⟨b0+1+1+1,0,none⟩ (.slice ad3 (nq+1) c3)).heap[m]?=w2.heap[m]?:=fun m hm hm2=>by
      rw [Below.heap_setCell _ _ _ m (show m≠b0+1+1+1 by omega),Hg3.out.block m (by simp;omega) (off m hm)]
      exact ((Below.refl w2.heap.size w2).alloc (Nat.le_refl _) (.cells #[.int .i64 x] 3)).block m hm2
     have blk2:∀ m,m < w1.heap.size→m≠b0+1→w2.heap[m]?=w1.heap[m]?:=fun m hm hne=>Hg2.out.block m hm (fun e=>hne (Option.some.inj e))
     have hbxl:=HS1.out.bx.lt
     have habl:=HS1.out.ab.lt
     have hvl:=HS1.out.vr.lt
     have hsz3:=Hg3.out.size
     have hne3:(Value.slice ad3 (nq+1) c3).ownBlock≠some (b0+1+1+1):=fun e=>by
      rcases Hhat.out with e1 | e1
      ·exact Hneb.out (by rw [← e1,e])
      ·rw [e] at e1;have e3:=Option.some.inj e1;(try simp at e3);omega
     refine ⟨?_,hs0,(blk b0 (by omega) (by omega)).trans ((blk2 b0 hbxl (by omega)).trans HS1.out.bx),(blk _ (by omega) (by omega)).trans ((blk2 _ habl (by omega)).trans HS1.out.ab),?_,Nat.le_refl _,_,HB3.out.set _,?_⟩
     ·have h2:Below V0.heap.size V0 w2:=HS1.out.bl.grown Hg2.out (by omega) (fun j hj=>by have:=Option.some.inj hj;omega)
      have h3:Below V0.heap.size V0 w3:=(h2.alloc h2.size (.cells #[.int .i64 x] 3)).grown Hg3.out (by simp;omega) (fun j hj=>by have:=(Hrow.out.lt j hj).1;omega)
      exact h3.setCell (p:=⟨b0+1+1+1,0,none⟩) (by show V0.heap.size≤b0+1+1+1;omega) _
     ·rw [HAw.out,List.length_append,Hnq.out]
      exact VMap.same Hm2.out (blk _ (by omega) (by have:=VMap.lt Hm2.out;omega))
     ·rw [List.map_append,List.length_append,HlQ.out,Hnq.out,iV_app]
      exact owns_keep7 Hown.out _ (fun e=>hne3 e.symm)
end Go.Proofs.YtiihegldhnlleaaGreat
namespace Go.Proofs.YtiihegldhnlleaaGreat
set_option maxRecDepth 100000
open Go.RowKit Go.Maps
set_option linter.unusedVariables false
attribute [local go_sem] ba_size
def pot (l:List Stp) (S:Int→Bool):Nat:=l.countP (fun s=>S s.1)+l.countP (fun s=>S s.2.1)
theorem pot_le (l:List Stp) (S:Int→Bool):pot l S≤2*l.length:=by
 unfold pot
 have h1:l.countP (fun s=>S s.1)≤l.length:=List.countP_le_length
 have h2:l.countP (fun s=>S s.2.1)≤l.length:=List.countP_le_length
 omega
theorem pot_drop (l:List Stp) (S S0:Int→Bool) (x:Int) (hx:S x=true):pot l (dropB S x)+(outX l S0 x).length+(inX l S0 x).length≤pot l S:=by
 have e1:l.countP (fun s=>S s.1)=l.countP (fun s=>dropB S x s.1)+l.countP (fun s=>decide (s.1=x)):=countP_split l _ _ _ fun s _=>by
  unfold dropB
  by_cases h:s.1=x
  ·simp [h,hx]
  ·simp [h]
 have e2:l.countP (fun s=>S s.2.1)=l.countP (fun s=>dropB S x s.2.1)+l.countP (fun s=>decide (s.2.1=x)):=countP_split l _ _ _ fun s _=>by
  unfold dropB
  by_cases h:s.2.1=x
  ·simp [h,hx]
  ·simp [h]
 have l1:(outX l S0 x).length≤l.countP (fun s=>decide (s.1=x)):=by
  unfold outX frL frK
  rw [List.length_map,← List.countP_eq_length_filter,← range_count l (fun s=>decide (s.1=x))]
  exact List.countP_mono_left fun i _ h=>by simp at h;simp [h.1]
 have l2:(inX l S0 x).length≤l.countP (fun s=>decide (s.2.1=x)):=by
  unfold inX toL toK
  rw [List.length_map,← List.countP_eq_length_filter,← range_count l (fun s=>decide (s.2.1=x))]
  exact List.countP_mono_left fun i _ h=>by simp at h;simp [h.1]
 unfold pot
 omega
def Less (l:List Stp) (S0 S:Int→Bool):Prop:=(∀ x,S x=true→S0 x=true)∧∀ T,AllIn l T S0→AllIn l T S
theorem Less.refl (l:List Stp) (S:Int→Bool):Less l S S:=⟨fun _ h=>h,fun _ h=>h⟩
theorem Less.drop {l:List Stp} {S0 S:Int→Bool} (h:Less l S0 S) (x:Int) (hx:inC l S x=0∨outC l S x=0):Less l S0 (dropB S x) :=
 ⟨fun y hy=>h.1 y (by unfold dropB at hy;simp at hy;exact hy.1),fun T hT=>(h.2 T hT).strip x hx⟩
structure StS (Wc V0 V:World) (m1 bt B bv:Nat) (cs:Array Value) (l:List Stp) (S:Int→Bool) (a:List Int):Prop where
 cm:CMap V m1 17592186044416 (cntF l S)
 gr:Wc.grownBy V (some m1)
 g0:V0.grownBy V (some m1)
 bx:SBox V bt tW cs
 vr:VrS V B bv a
theorem StS.bel {Wc V0 V V':World} {m1 bt B bv:Nat} {cs:Array Value} {l:List Stp} {S:Int→Bool} {a:List Int} (h:StS Wc V0 V m1 bt B bv cs l S a) (hb:Below V.heap.size V V'):StS Wc V0 V' m1 bt B bv cs l S a :=
 ⟨h.cm.bel hb h.cm.lt,h.gr.trans (grown_below8 _ hb),h.g0.trans (grown_below8 _ hb),h.bx.below hb,h.vr.bel hb⟩
def StRes (Wc V0:World) (m1:Nat) (l:List Stp) (S0:Int→Bool) (V':World):Prop:=∃ S,Less l S0 S∧CMap V' m1 17592186044416 (cntF l S)∧Wc.grownBy V' (some m1)∧V0.grownBy V' (some m1)
set_option maxHeartbeats 8000000 in
theorem pstrip11_any (Wc V:World) (l:List Stp) (N:List Int) (vl vn:Value) (m1 m2 m3:Nat) (hw:Web Wc l N vl vn m1 m2 m3) (S0:Int→Bool) (hS0:∀ y,S0 y=true→y∈N) (hM:CMap V m1 17592186044416 (cntF l S0)) (hg:Wc.grownBy V (some m1)) (v:Value) (L:List Int) (hO:IsInts V v L) (hSv:Shp v) (okL:∀ y∈L,y∈N) (hL:L.length≤7036874417560) :
 Calls Tryz.prog 84 #[webV vl vn m1 m2 m3,v] V fun e V'=>e=.returned (.tuple #[])∧StRes Wc V m1 l S0 V':=by
 have HW:=Lib.hid hw
 have hml:=isMap_lt hw.isM
 have hfl:=hw.few
 have hgs:=hg.size
 obtain ⟨al,cl,rfl,_⟩:=sts_at hw.sts
 obtain ⟨an,cn,rfl,_⟩:=hw.nums.some_at
 obtain ⟨av,cv,hvv,_⟩:=hO.some_at
 obtain ⟨cs,hcs⟩:∃ cs,webC (.slice al l.length cl) (.slice an N.length cn) m1 m2 m3=cs:=⟨_,rfl⟩
 have hMa:=hM.kept (World.grownBy_alloc V (.cells cs tW) none) (by simp)
 have hOa:=hO.below ((Below.refl _ V).alloc (Nat.le_refl _) (.cells cs tW))
 have CC:=pcloneI_any v L (V.alloc (.cells cs tW)) hOa hSv (by omega)
 have hXa:=SBox.new V tW cs
 have HMa:=Lib.hid hMa
 have HXa:=Lib.hid hXa
 have Hga:Hid (Wc.grownBy (V.alloc (.cells cs tW)) (some m1)):=hg.trans (World.grownBy_alloc _ _ _)
 have HokL:=Lib.hid okL
 have HS0:=Lib.hid hS0
 rw [← hcs] at CC
 subst hvv
 obtain ⟨nl,hnl⟩:∃ nl,l.length=nl:=⟨_,rfl⟩
 obtain ⟨nN,hnN⟩:∃ nN,N.length=nN:=⟨_,rfl⟩
 rw [hnl,hnN] at hcs CC HW
 rw [hnl] at hfl
 rw [hnl,hnN]
 have Hcs:=Lib.hid hcs
 have HNl:=Lib.hid hnl
 clear hw hM hg hO hSv hMa hOa hXa okL hS0 hcs hnl hnN
 go_enter Tryz.func84,Tryz.ntmps84
 go_wp2_with fail
 refine CC.mono ?_
 rintro e w1 ⟨v1,rfl,b1,own1⟩
 rw [Hcs.out] at b1 own1
 obtain ⟨a1,c1,rfl⟩:=own_shape11 own1
 obtain ⟨bv,hbv⟩:∃ bv,w1.heap.size=bv:=⟨_,rfl⟩
 have hB:V.heap.size+1≤w1.heap.size:=by have:=b1.size;simp at this;exact this
 have bA:Below w1.heap.size w1 (w1.alloc (.cells #[.slice a1 L.length c1] tI)):=(Below.refl _ w1).alloc (Nat.le_refl _) _
 have HSt:Hid (StS Wc V (w1.alloc (.cells #[.slice a1 L.length c1] tI)) m1 V.heap.size (V.heap.size+1) bv cs l S0 L):=by
  have hS1:Below (V.alloc (.cells cs tW)).heap.size (V.alloc (.cells cs tW)) (w1.alloc (.cells #[.slice a1 L.length c1] tI)):=bel_trans b1 bA
  refine ⟨HMa.out.bel hS1 HMa.out.lt,Hga.out.trans (grown_below8 _ hS1),(World.grownBy_alloc V _ _).trans (grown_below8 _ hS1),HXa.out.below hS1,by omega,.slice a1 L.length c1,?_,?_⟩
  ·rw [← hbv];exact Boxed.new w1 tI _
  ·have:(V.alloc (.cells cs tW)).heap.size=V.heap.size+1:=by simp
   rw [this] at own1
   exact own1.alloc _
 have Hle:Hid (L.length+pot l S0≤14073748835120):=by show _≤_;have:=pot_le l S0;have:=HNl.out;omega
 clear own1 b1 bA CC
 go_wp2_with fail
 go_loopg [5] (L.length+pot l S0) (fun g nv wr=>∃ (S:Int→Bool) (a:List Int),Hid (StS Wc V wr m1 V.heap.size (V.heap.size+1) bv cs l S a)∧Hid (Less l S0 S)∧a.length+pot l S≤g∧g≤14073748835120∧Hid (∀ y∈a,y∈N))
 case atStart=>exact ⟨S0,L,HSt,Less.refl l S0,Nat.le_refl _,Hle.out,HokL⟩
 case round =>
  obtain ⟨S,a,HS,HLs,hga,hgb,HaN⟩:=hrel
  obtain ⟨hB9,vv,hbx,hrow⟩:=HS.out.vr
  obtain ⟨ad,cc,rfl⟩:=own_shape11 hrow
  have p0:=hbx.cell
  have f0:=hbx.frozen
  have Hbx:=Lib.hid hbx
  have Hrow:=Lib.hid hrow
  have hbl:=hbx.lt
  rcases List.eq_nil_or_concat a with rfl | ⟨a',x,rfl⟩
  ·simp only [List.length_nil] at p0
   have HR:Hid (StRes Wc V m1 l S0 wr):=⟨S,HLs.out,HS.out.cm,HS.out.gr,HS.out.g0⟩
   clear hbx hrow
   go_wp2_with fail
   go_end0
   exact ⟨rfl,HR.out⟩
  ·rw [List.concat_eq_append] at *
   obtain ⟨na,hna⟩:∃ na,a'.length=na:=⟨_,rfl⟩
   have hln:(a'++[x]).length=na+1:=by rw [List.length_append,hna];rfl
   rw [hln] at p0 hrow hbx hga
   have Hna:=Lib.hid hna
   obtain ⟨g9,ea,cellx⟩:=own_at11 hrow na (by omega)
   subst ea
   have ex:(a'++[x]).getD na 0=x:=by rw [← hna];simp
   rw [ex] at cellx
   have hxN:x∈N:=HaN.out x (by simp)
   have hIx:I64 x:=HW.out.okN x hxN
   have HaN':Hid (∀ y∈a',y∈N):=fun y hy=>HaN.out y (by simp [hy])
   obtain ⟨_,_,_,k1,k2,_⟩:∃ g cp cur,na+1≤cc∧cc≤9223372036854775807∧True:=by
    rcases hrow.2 with ⟨e,_⟩ | ⟨g,cp,cur,e,_,_,q1,q2,_⟩
    ·cases e
    ·obtain ⟨_,rfl⟩:_∧cc=cp:=by simpa using e
     exact ⟨g,cc,cur,q1,by unfold maxLen at q2;omega,trivial⟩
   have w1f:IntKind.i64.wrap ((na:Int)+1 - 1)=(na:Int):=by rw [IntKind.wrap_i64];omega
   have j1:(na:Int) < (na:Int)+1:=by omega
   have j2:(na:Int)≤(cc:Int):=by omega
   have j3:na≤cc:=by omega
   have hgne:g9≠bv:=fun e=>block_not_row hbx (by decide) hrow (by rw [e];simp [Value.ownBlock])
   obtain ⟨wc,hwc⟩:∃ wc,wr.setCell ⟨bv,0,none⟩ (.slice (some ⟨g9,0,none⟩) na cc)=wc:=⟨_,rfl⟩
   have gc:wr.grownBy wc (some bv):=by rw [← hwc];exact Lib.grownBy_setCell _ _ _ _
   have hcut:wr.ownsRow (V.heap.size+1) 3 1 (.slice (some ⟨g9,0,none⟩) na cc) na (iV a'):=by
    have hR:HRow wr (V.heap.size+1) g9 cc (a'++[x]):=by unfold HRow;rw [hln];exact hrow
    have:=own_cut11 (n:=na) hR (by omega)
    rw [List.take_left' hna] at this
    exact this
   have hSc:StS Wc V wc m1 V.heap.size (V.heap.size+1) bv cs l S a':=by
    have h0:=HS.out
    have hs0:=h0.g0.size
    refine ⟨h0.cm.kept gc (fun e=>by have:=Option.some.inj e;omega),⟨gc.os.trans h0.gr.os,gc.tape.trans h0.gr.tape,gc.output.trans h0.gr.output,Nat.le_trans h0.gr.size gc.size,fun q hq hne=>(gc.block q (by have:=h0.gr.size;omega) (fun e=>by have:=Option.some.inj e;omega)).trans (h0.gr.block q hq hne)⟩,⟨gc.os.trans h0.g0.os,gc.tape.trans h0.g0.tape,gc.output.trans h0.g0.output,Nat.le_trans h0.g0.size gc.size,fun q hq hne=>(gc.block q (by have:=h0.g0.size;omega) (fun e=>by have:=Option.some.inj e;omega)).trans (h0.g0.block q hq hne)⟩,(gc.block _ h0.bx.lt (fun e=>by have:=Option.some.inj e;omega)).trans h0.bx,hB9,_,by rw [← hwc];exact hbx.set _,?_⟩
    rw [hna]
    rw [← hwc]
    exact owns_keep7 hcut _ (fun e=>hgne (by simpa [Value.ownBlock] using e.symm))
   have HSc:=Lib.hid hSc
   have x2:=hSc.bx.cell 2 (.map (some m1)) (by rw [← Hcs.out];rfl)
   have hcmc:=hSc.cm
   unfold CMap at hcmc
   have hSN:∀ y,S y=true→y∈N:=fun y hy=>HS0.out y (HLs.out.1 y hy)
   have HSN:=Lib.hid hSN
   have hisx:(cntF l S x).isSome=S x:=by unfold cntF;cases S x<;>rfl
   have Hisx:=Lib.hid hisx
   obtain ⟨pi,po,hpv,hpi,hpo⟩:∃ pi po:Int,((cntF l S x).map cntV).getD (.agg #[.int .i64 0,.int .i64 0])=.agg #[.int .i64 pi,.int .i64 po]∧(S x=true→pi=(inC l S x:Nat))∧(S x=true→po=(outC l S x:Nat)):=by
    by_cases h:S x=true
    ·exact ⟨_,_,by unfold cntF;rw [if_pos h];rfl,fun _=>rfl,fun _=>rfl⟩
    ·exact ⟨0,0,by unfold cntF;rw [if_neg h];rfl,fun h'=>absurd h' h,fun h'=>absurd h' h⟩
   have Hpi:=Lib.hid hpi
   have Hpo:=Lib.hid hpo
   have hSd:=hSc.bel ((Below.refl _ wc).alloc (Nat.le_refl _) (.cells #[.int .i64 pi,.int .i64 po] tC))
   have hxd:=SBox.new wc tC #[.int .i64 pi,.int .i64 po]
   have HSd:=Lib.hid hSd
   have Hxd:=Lib.hid hxd
   have hbd:=hSd.bx
   rw [← Hcs.out] at hbd
   have y0:=hbd.cell 0 _ rfl
   have y1:=hbd.cell 1 _ rfl
   have y2:=hbd.cell 2 _ rfl
   have y3:=hbd.cell 3 _ rfl
   have y4:=hbd.cell 4 _ rfl
   have CH:=fun (bo:Bool) (hbo:(cntF l S x).isSome=bo)=>phas11_any (.slice al nl cl) (.slice an nN cn) m1 m2 m3 17592186044416 (cntF l S) x _ hIx hSd.cm bo hbo
   clear hbx hrow hcut hSc hSN hisx hpi hpo hSd hxd hbd hna hln ex gc
   cases hSx:S x with
   | false =>
     have CH1:=CH false (by rw [Hisx.out];exact hSx)
     clear CH
     go_wp2_with (at_lookup;refine wpl_look _ rfl _ _ tML rfl tC Tryz.underlying106 (zeroC _) m1 _ _ rfl hcmc x hIx rfl _ hpv ?_)
     refine CH1.mono ?_
     rintro e w2 ⟨rfl,b2⟩
     have hxe:=Hxd.out.below b2
     have z0:=hxe.cell 0 _ rfl
     have z1:=hxe.cell 1 _ rfl
     have HS2:=Lib.hid (HSd.out.bel b2)
     clear hxe
     go_wp2_with fail
     go_roundg (na+pot l S)
     case measure=>omega
     case rel=>exact ⟨S,a',HS2,HLs,by have:=Hna.out;omega,by omega,HaN'⟩
   | true =>
     have hpi:=Hpi.out hSx
     have hpo:=Hpo.out hSx
     by_cases h0:pi=0
     ·have HP0:Hid (inC l S x=0):=by show _=_;omega
      subst h0
      clear hpi hpo
      have CH1:=CH true (by rw [Hisx.out];exact hSx)
      clear CH
      go_wp2_with (at_lookup;refine wpl_look _ rfl _ _ tML rfl tC Tryz.underlying106 (zeroC _) m1 _ _ rfl hcmc x hIx rfl _ hpv ?_)
      refine CH1.mono ?_
      rintro e w2 ⟨rfl,b2⟩
      have hxe:=Hxd.out.below b2
      have z0:=hxe.cell 0 _ rfl
      have z1:=hxe.cell 1 _ rfl
      have HS2:=Lib.hid (HSd.out.bel b2)
      clear hxe
      have hS2:=HS2.out
      have hb2:=hS2.bx
      rw [← Hcs.out] at hb2
      have u0:=hb2.cell 0 _ rfl
      have u1:=hb2.cell 1 _ rfl
      have u2:=hb2.cell 2 _ rfl
      have u3:=hb2.cell 3 _ rfl
      have u4:=hb2.cell 4 _ rfl
      have hpd:=pot_drop l S (inN N) x hSx
      have hna:=Hna.out
      have CT:=ptakeS_any Wc w2 l N (.slice al nl cl) (.slice an nN cn) m1 m2 m3 HW.out S HSN.out hS2.cm hS2.gr x hSx (V.heap.size+1) bv (by omega) a' hS2.vr (fun U=>SBox U V.heap.size tW cs∧V.grownBy U (some m1)) ⟨hS2.bx,hS2.g0⟩
       (fun U U' hU hgU=>⟨(hgU.block _ hU.1.lt (fun e=>by have:=Option.some.inj e;omega)).trans hU.1,hU.2.trans hgU⟩)
       (fun U U' aa hU hVr hfU=>⟨hfU.box hU.1 (by omega) (hVr.vb hU.1 (by decide)),⟨hfU.bel.os.trans hU.2.os,hfU.bel.tape.trans hU.2.tape,hfU.bel.output.trans hU.2.output,Nat.le_trans hU.2.size hfU.bel.size,fun q hq hne=>(hfU.bel.block q (by omega)).trans (hU.2.block q hq hne)⟩⟩)
       14073748835120 (by omega) (by omega) HaN'.out
      have HLd:=Lib.hid (HLs.out.drop x (.inl HP0.out))
      have Hpd:=Lib.hid hpd
      clear hS2 hb2 hpd
      go_wp2_with fail
      refine CT.mono ?_
      rintro e w3 ⟨rfl,⟨a3,hv3,hl3,hn3⟩,⟨hx3,hg3⟩,hc3,hgr3⟩
      have HS3:Hid (StS Wc V w3 m1 V.heap.size (V.heap.size+1) bv cs l (dropB S x) a3):=⟨hc3,hgr3,hg3,hx3,hv3⟩
      have HN3:=Lib.hid hn3
      clear hv3 hn3 hx3 hg3 hc3 hgr3
      go_wp2_with fail
      go_roundg (a3.length+pot l (dropB S x))
      case measure=>have:=Hpd.out;omega
      case rel=>exact ⟨dropB S x,a3,HS3,HLd,Nat.le_refl _,by have:=Hpd.out;omega,HN3⟩
     ·have e0:(pi==0)=false:=by simp [h0]
      by_cases h1:po=0
      ·have HP0:Hid (outC l S x=0):=by show _=_;omega
       subst h1
       clear hpi hpo
       have CH1:=CH true (by rw [Hisx.out];exact hSx)
       clear CH
       go_wp2_with (at_lookup;refine wpl_look _ rfl _ _ tML rfl tC Tryz.underlying106 (zeroC _) m1 _ _ rfl hcmc x hIx rfl _ hpv ?_)
       refine CH1.mono ?_
       rintro e w2 ⟨rfl,b2⟩
       have hxe:=Hxd.out.below b2
       have z0:=hxe.cell 0 _ rfl
       have z1:=hxe.cell 1 _ rfl
       have HS2:=Lib.hid (HSd.out.bel b2)
       clear hxe
       have hS2:=HS2.out
       have hb2:=hS2.bx
       rw [← Hcs.out] at hb2
       have u0:=hb2.cell 0 _ rfl
       have u1:=hb2.cell 1 _ rfl
       have u2:=hb2.cell 2 _ rfl
       have u3:=hb2.cell 3 _ rfl
       have u4:=hb2.cell 4 _ rfl
       have hpd:=pot_drop l S (inN N) x hSx
       have hna:=Hna.out
       have CT:=ptakeS_any Wc w2 l N (.slice al nl cl) (.slice an nN cn) m1 m2 m3 HW.out S HSN.out hS2.cm hS2.gr x hSx (V.heap.size+1) bv (by omega) a' hS2.vr (fun U=>SBox U V.heap.size tW cs∧V.grownBy U (some m1)) ⟨hS2.bx,hS2.g0⟩
        (fun U U' hU hgU=>⟨(hgU.block _ hU.1.lt (fun e=>by have:=Option.some.inj e;omega)).trans hU.1,hU.2.trans hgU⟩)
        (fun U U' aa hU hVr hfU=>⟨hfU.box hU.1 (by omega) (hVr.vb hU.1 (by decide)),⟨hfU.bel.os.trans hU.2.os,hfU.bel.tape.trans hU.2.tape,hfU.bel.output.trans hU.2.output,Nat.le_trans hU.2.size hfU.bel.size,fun q hq hne=>(hfU.bel.block q (by omega)).trans (hU.2.block q hq hne)⟩⟩)
        14073748835120 (by omega) (by omega) HaN'.out
       have HLd:=Lib.hid (HLs.out.drop x (.inr HP0.out))
       have Hpd:=Lib.hid hpd
       clear hS2 hb2 hpd
       go_wp2_with fail
       refine CT.mono ?_
       rintro e w3 ⟨rfl,⟨a3,hv3,hl3,hn3⟩,⟨hx3,hg3⟩,hc3,hgr3⟩
       have HS3:Hid (StS Wc V w3 m1 V.heap.size (V.heap.size+1) bv cs l (dropB S x) a3):=⟨hc3,hgr3,hg3,hx3,hv3⟩
       have HN3:=Lib.hid hn3
       clear hv3 hn3 hx3 hg3 hc3 hgr3
       go_wp2_with fail
       go_roundg (a3.length+pot l (dropB S x))
       case measure=>have:=Hpd.out;omega
       case rel=>exact ⟨dropB S x,a3,HS3,HLd,Nat.le_refl _,by have:=Hpd.out;omega,HN3⟩
      ·have e1:(po==0)=false:=by simp [h1]
       clear hpi hpo
       have CH1:=CH true (by rw [Hisx.out];exact hSx)
       clear CH
       go_wp2_with (at_lookup;refine wpl_look _ rfl _ _ tML rfl tC Tryz.underlying106 (zeroC _) m1 _ _ rfl hcmc x hIx rfl _ hpv ?_)
       refine CH1.mono ?_
       rintro e w2 ⟨rfl,b2⟩
       have hxe:=Hxd.out.below b2
       have z0:=hxe.cell 0 _ rfl
       have z1:=hxe.cell 1 _ rfl
       have HS2:=Lib.hid (HSd.out.bel b2)
       clear hxe
       go_wp2_with fail
       go_roundg (na+pot l S)
       case measure=>omega
       case rel=>exact ⟨S,a',HS2,HLs,by have:=Hna.out;omega,by omega,HaN'⟩
end Go.Proofs.YtiihegldhnlleaaGreat
namespace Go.Proofs.YtiihegldhnlleaaGreat
set_option maxRecDepth 100000
open Go.RowKit Go.Shelf
set_option linter.unusedVariables false
attribute [local go_sem] ba_size
theorem ev_upto (h:List Ev) (i:Nat) (hi:i≤h.length):∀ j,j < i→ev (h.take i) j=ev h j:=fun j hj=>ev_take h i j hj hi
theorem find_take (h:List Ev) (t:Int) (i:Nat) (hi:i≤h.length):(findP (h.take i) t).2=(fstL h t i).isSome∧((fstL h t i).isSome=true→((findP (h.take i) t).1.2.2.1 < i↔endL h t i≠none)):=by
 have hl:(h.take i).length=i:=by rw [List.length_take];omega
 have e1:fstL (h.take i) t i=fstL h t i:=fi_congr fun j hj=>by unfold ofTxn;rw [ev_upto h i hi j hj]
 have e2:endL (h.take i) t i=endL h t i:=fi_congr fun j hj=>by unfold isEnd;rw [ev_upto h i hi j hj]
 unfold findP findL
 rw [hl,e1,e2]
 cases hf:fstL h t i with
 | none=>exact ⟨rfl,fun hh=>by cases hh⟩
 | some q =>
   cases he:endL h t i with
   | none=>exact ⟨rfl,fun _=>⟨fun hh=>by simp at hh,fun hh=>absurd rfl hh⟩⟩
   | some e=>exact ⟨rfl,fun _=>⟨fun _=>by simp,fun _=>((fi_some _ _ _).1 he).1⟩⟩
theorem written_take (h:List Ev) (v:List UInt8) (i:Nat) (hi:i≤h.length):fi (sameVal (h.take i) v) (h.take i).length=fi (sameVal h v) i:=by
 have hl:(h.take i).length=i:=by rw [List.length_take];omega
 rw [hl]
 exact fi_congr fun j hj=>by unfold sameVal;rw [ev_upto h i hi j hj]
section
variable {h:List Ev} {i:Nat} {y0 y1:Int} {y2 y3:List UInt8}
theorem fs_may (he:ev h i=(y0,y1,y2,y3)) (hm:¬ mayE (y0,y1,y2,y3)):formStep h i=1:=by unfold formStep;rw [he,if_pos hm]
theorem fs_there (he:ev h i=(y0,y1,y2,y3)) (hm:mayE (y0,y1,y2,y3)) (h1:y0=1) (hf:(fstL h y1 i).isSome=true):formStep h i=8:=by
 unfold formStep;rw [he,if_neg (fun hh=>hh hm),if_pos h1,if_neg (fun e=>by rw [show fstL h y1 i=none from e] at hf;cases hf)]
theorem fs_begin (he:ev h i=(y0,y1,y2,y3)) (hm:mayE (y0,y1,y2,y3)) (h1:y0=1) (hf:(fstL h y1 i).isSome=false):formStep h i=0:=by
 unfold formStep;rw [he,if_neg (fun hh=>hh hm),if_pos h1,if_pos (by cases hq:fstL h y1 i with
  | none=>rfl
  | some q=>rw [hq] at hf;cases hf)]
theorem fs_none (he:ev h i=(y0,y1,y2,y3)) (hm:mayE (y0,y1,y2,y3)) (h1:¬ y0=1) (hf:(fstL h y1 i).isSome=false):formStep h i=7:=by
 unfold formStep;rw [he,if_neg (fun hh=>hh hm),if_neg h1,if_pos (by cases hq:fstL h y1 i with
  | none=>rfl
  | some q=>rw [hq] at hf;cases hf)]
theorem fs_state (he:ev h i=(y0,y1,y2,y3)) (hm:mayE (y0,y1,y2,y3)) (h1:¬ y0=1) (hf:(fstL h y1 i).isSome=true) (hn:endL h y1 i≠none):formStep h i=9:=by
 unfold formStep;rw [he,if_neg (fun hh=>hh hm),if_neg h1,if_neg (fun e=>by rw [show fstL h y1 i=none from e] at hf;cases hf),if_pos hn]
theorem fs_rest (he:ev h i=(y0,y1,y2,y3)) (hm:mayE (y0,y1,y2,y3)) (h1:¬ y0=1) (hf:(fstL h y1 i).isSome=true) (hn:¬ endL h y1 i≠none):formStep h i=if y0=3∧fi (sameVal h y3) i≠none then 8 else if y0=2∧y3≠[]∧writerL h y2 y3=none then 7 else 0:=by
 unfold formStep;rw [he,if_neg (fun hh=>hh hm),if_neg h1,if_neg (fun e=>by rw [show fstL h y1 i=none from e] at hf;cases hf),if_neg hn]
end
set_option maxHeartbeats 8000000 in
theorem pfault8_any (h:List Ev) (v:Value) (w:World) (hT:IsEvs w v h) (i:Nat) (hi:i < h.length) (hn:h.length≤256) :
 Calls Tryz.prog 45 #[v,.int .i64 (i:Int)] w fun e w'=>e=.returned (.int .i64 (formStep h i:Int))∧Below w.heap.size w w':=by
 have hT0:=hT
 obtain ⟨a,cap,rfl,h1,h2,h3,HC⟩:=hT.some_at
 obtain ⟨bb,off,rfl,hblt,hcell⟩:=HC.out i hi
 obtain ⟨p0,p1,p2,p3⟩:=IsEvs.at hi hcell
 have HX:Hid (ev h i=h[i]):=ev_get h i hi
 obtain ⟨⟨y0,y1,y2,y3⟩,hx⟩:∃ x,h[i]=x:=⟨_,rfl⟩
 rw [hx] at p0 p1 p2 p3 HX
 simp only at p0 p1 p2 p3
 have HA:Hid (IsEvs w (.slice (some ⟨bb,off,none⟩) i cap) (h.take i)):=hT0.take i (by omega)
 have HH:Hid (IsEvs w (.slice (some ⟨bb,off,none⟩) h.length cap) h):=hT0
 clear HC hT hT0 hcell hx
 have CF:=fun V hV=>pfind8_any (h.take i) (.slice (some ⟨bb,off,none⟩) i cap) V y1 (HA.out.below (w':=V) hV)
 have CW:=fun V hV=>pwritten8_any (h.take i) (.slice (some ⟨bb,off,none⟩) i cap) V (HA.out.below (w':=V) hV) y3
 have CR:=fun V hV=>pwriter8_any h (.slice (some ⟨bb,off,none⟩) h.length cap) V (HH.out.below (w':=V) hV) y2 y3
 have CM:=fun V=>pmay_any y0 y1 y2 y3 V
 rw [written_take h y3 i (by omega)] at CW
 have HFT:=Lib.hid (find_take h y1 i (by omega))
 obtain ⟨⟨⟨f0,f1,f2,f3⟩,th⟩,hP⟩:∃ P,findP (h.take i) y1=P:=⟨_,rfl⟩
 rw [hP] at CF HFT
 clear hP HA HH
 simp only at CF
 obtain ⟨bm,hbm⟩:∃ bm,decide (mayE (y0,y1,y2,y3))=bm:=⟨_,rfl⟩
 have HM:Hid (decide (mayE (y0,y1,y2,y3))=bm):=hbm
 rw [hbm] at CM
 obtain ⟨bw,hbw⟩:∃ bw,(fi (sameVal h y3) i).isSome=bw:=⟨_,rfl⟩
 have HBW:Hid ((fi (sameVal h y3) i).isSome=bw):=hbw
 rw [hbw] at CW
 obtain ⟨r,hr⟩:∃ r,writerL h y2 y3=r:=⟨_,rfl⟩
 have HR:Hid (writerL h y2 y3=r):=hr
 rw [hr] at CR
 clear hbm hbw hr
 have ji:(i:Int) < (h.length:Int):=by omega
 have jc:(i:Int)≤(cap:Int):=by omega
 have HN:Hid (i < h.length∧h.length≤256):=⟨hi,hn⟩
 clear hi hn
 go_enter Tryz.func45,Tryz.ntmps45
 go_wp2_with fail
 refine wp_region_any (by kernel_rfl) ?_
 change wpAny _ _ _ _ _ _ _ (World.drew _)
 refine any_of_C (C:=fun V=>V.cell? ⟨bb,off+i*4,none⟩=some (.int .i64 y0)∧V.cell? ⟨bb,off+i*4+1,none⟩=some (.int .i64 y1)∧V.cell? ⟨bb,off+i*4+2,none⟩=some (.string ⟨y2.toArray⟩)∧V.cell? ⟨bb,off+i*4+3,none⟩=some (.string ⟨y3.toArray⟩)) 9 _ _ _ _ ?_
 refine takeC (i:=0) (v:=.slice (some ⟨bb,off,none⟩) h.length cap) rfl (by kernel_rfl) (by kernel_rfl) (by kernel_rfl) (by kernel_rfl) (by kernel_rfl) (fun _ _ _ h=>h) (Or.inl ⟨by kernel_rfl,fun V hV=>by obtain ⟨r0,r1,r2,r3⟩:=hV;go_simp⟩) ?_
 refine takeC (i:=1) (v:=.int .i64 (i:Int)) rfl (by kernel_rfl) (by kernel_rfl) (by kernel_rfl) (by kernel_rfl) (by kernel_rfl) (fun _ _ _ h=>h) (Or.inl ⟨by kernel_rfl,fun V hV=>by obtain ⟨r0,r1,r2,r3⟩:=hV;go_simp⟩) ?_
 refine takeC (i:=2) (v:=.pointer (some ⟨bb,off+i*4,none⟩)) rfl (by kernel_rfl) (by kernel_rfl) (by kernel_rfl) (by kernel_rfl) (by kernel_rfl) (fun _ _ _ h=>h) (Or.inl ⟨by kernel_rfl,fun V hV=>by obtain ⟨r0,r1,r2,r3⟩:=hV;go_simp⟩) ?_
 refine takeC (i:=3) (v:=.agg #[.int .i64 y0,.int .i64 y1,.string ⟨y2.toArray⟩,.string ⟨y3.toArray⟩]) rfl (by kernel_rfl) (by kernel_rfl) (by kernel_rfl) (by kernel_rfl) (by kernel_rfl) (fun _ _ _ h=>h) (Or.inl ⟨by kernel_rfl,fun V hV=>by obtain ⟨r0,r1,r2,r3⟩:=hV;go_simp⟩) ?_
 refine takeC (i:=4) (v:=.slice (some ⟨bb,off,none⟩) h.length cap) rfl (by kernel_rfl) (by kernel_rfl) (by kernel_rfl) (by kernel_rfl) (by kernel_rfl) (fun _ _ _ h=>h) (Or.inl ⟨by kernel_rfl,fun V hV=>by obtain ⟨r0,r1,r2,r3⟩:=hV;go_simp⟩) ?_
 refine takeC (i:=5) (v:=.int .i64 (i:Int)) rfl (by kernel_rfl) (by kernel_rfl) (by kernel_rfl) (by kernel_rfl) (by kernel_rfl) (fun _ _ _ h=>h) (Or.inl ⟨by kernel_rfl,fun V hV=>by obtain ⟨r0,r1,r2,r3⟩:=hV;go_simp⟩) ?_
 refine takeC (i:=6) (v:=.slice (some ⟨bb,off,none⟩) i cap) rfl (by kernel_rfl) (by kernel_rfl) (by kernel_rfl) (by kernel_rfl) (by kernel_rfl) (fun _ _ _ h=>h) (Or.inl ⟨by kernel_rfl,fun V hV=>by obtain ⟨r0,r1,r2,r3⟩:=hV;go_simp⟩) ?_
 refine consC (i:=7) (by kernel_rfl) (by kernel_rfl) ⟨p0,p1,p2,p3⟩ rfl (fun K hK=>?_)
 go_wp2_with fail
 refine consC (i:=8) (by kernel_rfl) (by kernel_rfl) ⟨cell_al _ p0,cell_al _ p1,cell_al _ p2,cell_al _ p3⟩ rfl (fun K hK=>?_)
 go_wp2_with fail
 refine lastC (by kernel_rfl) (by kernel_rfl) ⟨cell_al _ p0,cell_al _ p1,cell_al _ p2,cell_al _ p3⟩ (of_decide_eq_true (by kernel_rfl)) ?_
 refine any_seqI [9] [_] _ _ _ rfl (by kernel_rfl) ?_
 have B0:Below w.heap.size w (w.alloc (.cells #[.int .i64 y0,.int .i64 y1,.string ⟨y2.toArray⟩,.string ⟨y3.toArray⟩] 49)).drew:=((Below.refl _ w).alloc (Nat.le_refl _) _).drew
 have X0:SBox (w.alloc (.cells #[.int .i64 y0,.int .i64 y1,.string ⟨y2.toArray⟩,.string ⟨y3.toArray⟩] 49)).drew w.heap.size 49 #[.int .i64 y0,.int .i64 y1,.string ⟨y2.toArray⟩,.string ⟨y3.toArray⟩]:=SBox.new w _ _
 obtain ⟨V0,hV0⟩:∃ V0,(w.alloc (.cells #[.int .i64 y0,.int .i64 y1,.string ⟨y2.toArray⟩,.string ⟨y3.toArray⟩] 49)).drew=V0:=⟨_,rfl⟩
 rw [hV0] at B0 X0
 have x1:=X0.cell 1 _ rfl
 go_wp2_with fail
 clear hV0
 refine (CF V0 B0).mono ?_
 rintro e V1 ⟨rfl,b1⟩
 have s0:=B0.size
 have B1:Below w.heap.size w V1:=B0.trans (b1.mono s0)
 have X1:=(X0.below b1).alloc (.cells #[.int .i64 f0,.int .i64 (f1:Int),.int .i64 (f2:Int),.bool f3] 51)
 have Lb:=SBox.new V1 51 #[.int .i64 f0,.int .i64 (f1:Int),.int .i64 (f2:Int),.bool f3]
 have z0:=X1.cell 0 _ rfl
 have z1:=X1.cell 1 _ rfl
 have z2:=X1.cell 2 _ rfl
 have z3:=X1.cell 3 _ rfl
 clear x1 X0 b1
 go_wp2_with fail
 refine (CM _).mono ?_
 rintro e V2 ⟨rfl,b2⟩
 have s1:=B1.size
 have B2:Below w.heap.size w V2:=(B1.alloc s1 (.cells #[.int .i64 f0,.int .i64 (f1:Int),.int .i64 (f2:Int),.bool f3] 51)).trans (b2.mono (by simp;omega))
 have X2:=X1.below b2
 have L2:=Lb.below b2
 have u0:=X2.cell 0 _ rfl
 have u2:=X2.cell 2 _ rfl
 have u3:=X2.cell 3 _ rfl
 have l2:=L2.cell 2 _ rfl
 have HX2:=Lib.hid X2
 have HB2:=Lib.hid B2
 clear z0 z1 z2 z3 X1 Lb b2 X2 L2
 cases bm with
 | false =>
   have HE:Hid (formStep h i=1):=fs_may HX.out (of_decide_eq_false HM.out)
   go_wp2_with fail
   go_ret
   exact ⟨by rw [HE.out];rfl,HB2.out⟩
 | true =>
   by_cases k1:y0=1
   ·have e1:(y0==1)=true:=by rw [k1];rfl
    have e2:(y0==2)=false:=by rw [k1];rfl
    have e3:(y0==3)=false:=by rw [k1];rfl
    cases th with
    | true =>
      have HE:Hid (formStep h i=8):=fs_there HX.out (of_decide_eq_true HM.out) k1 HFT.out.1.symm
      clear k1
      go_wp2_with fail
      go_ret
      exact ⟨by rw [HE.out];rfl,HB2.out⟩
    | false =>
      have HE:Hid (formStep h i=0):=fs_begin HX.out (of_decide_eq_true HM.out) k1 HFT.out.1.symm
      clear k1
      go_wp2_with fail
      go_ret
      exact ⟨by rw [HE.out];rfl,HB2.out⟩
   ·have e1:(y0==1)=false:=beq_eq_false_iff_ne.2 k1
    cases th with
    | false =>
      have HE:Hid (formStep h i=7):=fs_none HX.out (of_decide_eq_true HM.out) k1 HFT.out.1.symm
      clear k1
      go_wp2_with fail
      go_ret
      exact ⟨by rw [HE.out];rfl,HB2.out⟩
    | true =>
      have HFI:=Lib.hid (HFT.out.2 HFT.out.1.symm)
      by_cases kt:f2 < i
      ·have jt:(f2:Int) < (i:Int):=by omega
       have HE:Hid (formStep h i=9):=fs_state HX.out (of_decide_eq_true HM.out) k1 HFT.out.1.symm (HFI.out.1 kt)
       clear k1
       go_wp2_with fail
       go_ret
       exact ⟨by rw [HE.out];rfl,HB2.out⟩
      ·have jt:¬ (f2:Int) < (i:Int):=by omega
       have HE0:=Lib.hid (fs_rest HX.out (of_decide_eq_true HM.out) k1 HFT.out.1.symm (fun hh=>kt (HFI.out.2 hh)))
       by_cases k3:y0=3
       ·have e2:(y0==2)=false:=by rw [k3];rfl
        have e3:(y0==3)=true:=by rw [k3];rfl
        have K3:Hid (y0=3):=k3
        clear k1 k3
        go_wp2_with fail
        refine (CW _ HB2.out).mono ?_
        rintro e V3 ⟨rfl,b3⟩
        have s2:=HB2.out.size
        have B3:=HB2.out.trans (b3.mono s2)
        have X3:=HX2.out.below b3
        have t0:=X3.cell 0 _ rfl
        cases bw with
        | true =>
          have HE:Hid (formStep h i=8):=by show _=_;rw [HE0.out,if_pos ⟨K3.out,fun e=>by have:=HBW.out;rw [e] at this;cases this⟩]
          go_wp2_with fail
          go_ret
          exact ⟨by rw [HE.out];rfl,B3⟩
        | false =>
          have HE:Hid (formStep h i=0):=by
           show _=_
           rw [HE0.out,if_neg (fun hh=>hh.2 (by
            cases hq:fi (sameVal h y3) i with
            | none=>rfl
            | some q=>have:=HBW.out;rw [hq] at this;cases this)),if_neg (fun hh=>by rw [K3.out] at hh;exact absurd hh.1 (by decide))]
          go_wp2_with fail
          go_ret
          exact ⟨by rw [HE.out];rfl,B3⟩
       ·have e3:(y0==3)=false:=beq_eq_false_iff_ne.2 k3
        by_cases k2:y0=2
        ·have e2:(y0==2)=true:=by rw [k2];rfl
         by_cases kv:y3=[]
         ·have HE:Hid (formStep h i=0):=by show _=_;rw [HE0.out,if_neg (fun hh=>k3 hh.1),if_neg (fun hh=>hh.2.1 kv)]
          have ev1:y3.isEmpty=true:=by rw [kv];rfl
          have ev2:(y3 != [])=false:=by rw [kv];rfl
          have ev3:(y3==[])=true:=by rw [kv];rfl
          clear kv k1 k2 k3
          go_wp2_with fail
          go_ret
          exact ⟨by rw [HE.out];rfl,HB2.out⟩
         ·have ev1:y3.isEmpty=false:=ne_nil7 y3 kv
          have ev2:(y3 != [])=true:=by rw [bne_iff_ne];exact kv
          have ev3:(y3==[])=false:=beq_eq_false_iff_ne.2 kv
          have KV:Hid (y0=2∧y3≠[]∧¬ y0=3):=⟨k2,kv,k3⟩
          clear kv k1 k2 k3
          go_wp2_with fail
          refine (CR _ HB2.out).mono ?_
          rintro e V3 ⟨rfl,b3⟩
          have s2:=HB2.out.size
          have B3:=HB2.out.trans (b3.mono s2)
          cases r with
          | none =>
            have HE:Hid (formStep h i=7):=by show _=_;rw [HE0.out,if_neg (fun hh=>KV.out.2.2 hh.1),if_pos ⟨KV.out.1,KV.out.2.1,HR.out⟩]
            simp only [oI]
            go_wp2_with fail
            go_ret
            exact ⟨by rw [HE.out];rfl,B3⟩
          | some q =>
            have HE:Hid (formStep h i=0):=by show _=_;rw [HE0.out,if_neg (fun hh=>KV.out.2.2 hh.1),if_neg (fun hh=>by rw [HR.out] at hh;cases hh.2.2)]
            have eq1:((q:Int)==-1)=false:=by rw [beq_eq_false_iff_ne];omega
            simp only [oI]
            go_wp2_with fail
            go_ret
            exact ⟨by rw [HE.out];rfl,B3⟩
        ·have e2:(y0==2)=false:=beq_eq_false_iff_ne.2 k2
         have HE:Hid (formStep h i=0):=by show _=_;rw [HE0.out,if_neg (fun hh=>k3 hh.1),if_neg (fun hh=>k2 hh.1)]
         clear k1 k2 k3
         go_wp2_with fail
         go_ret
         exact ⟨by rw [HE.out];rfl,HB2.out⟩
end Go.Proofs.YtiihegldhnlleaaGreat
namespace Go.Proofs.YtiihegldhnlleaaGreat
set_option maxRecDepth 100000
open Go.RowKit Go.Shelf
set_option linter.unusedVariables false
attribute [local go_sem] Oper.semAt_some ba_size
theorem lives_open (h:List Ev) (y:Lf) (hy:y∈livesL h) (ho:y.2.2.1=h.length):∃ i,i < h.length∧openAt h i=true:=by
 unfold livesL at hy
 obtain ⟨i,hi,hf⟩:=List.mem_filterMap.1 hy
 have hil:=List.mem_range.1 hi
 by_cases h1:fstL h (ev h i).2.1 i=none
 ·rw [if_pos h1] at hf
  have hfn:fstL h (ev h i).2.1 h.length=some i:=(fstL_some h _ _ _).2 ⟨hil,rfl,(fstL_none h _ _).1 h1⟩
  unfold findL at hf
  rw [hfn] at hf
  simp only at hf
  cases he:endL h (ev h i).2.1 h.length with
  | none=>exact ⟨i,hil,by unfold openAt;rw [he];rfl⟩
  | some e =>
    rw [he] at hf
    simp only [Option.some.injEq] at hf
    rw [← hf] at ho
    have:=((endL_some h _ _ _).1 he).1
    simp only at ho
    omega
 ·rw [if_neg h1] at hf;cases hf
theorem lives_shut (h:List Ev) (hy:∀ y∈livesL h,y.2.2.1≠h.length):∀ i,i < h.length→openAt h i=false:=by
 intro i hi
 unfold openAt
 rw [decide_eq_false_iff_not]
 intro he
 cases hf:fstL h (ev h i).2.1 h.length with
 | none=>exact (fstL_none h _ _).1 hf i hi rfl
 | some q =>
   obtain ⟨q1,q2,q3⟩:=(fstL_some h _ _ _).1 hf
   have hfl:findL h (ev h i).2.1=some ((ev h i).2.1,q,h.length,false):=by unfold findL;rw [hf,he]
   refine hy ((ev h i).2.1,q,h.length,false) ?_ rfl
   unfold livesL
   refine List.mem_filterMap.2 ⟨q,List.mem_range.2 q1,?_⟩
   rw [q2,if_pos ((fstL_none h _ _).2 q3),hfl]
theorem results_cells8 {fn:Func} {P:Program} {p q:Tmp} {t1 t2:TypeId} (h:fn.results=#[.cell p t1,.cell q t2]) (tmps:Array Value) (w:World) (v:Value)
 (hv:((asAddr (tmps.getD p undef)).run P w).andThen (fun a w₁=>((loadVar t1 a).run P w₁).andThen fun x w₂=>((asAddr (tmps.getD q undef)).run P w₂).andThen fun b w₃=>((loadVar t2 b).run P w₃).andThen fun y w₄=>Result.ok (.tuple #[x,y]) w₄)=Result.ok v w) :
 (results fn tmps).run P w=.ok v w:=by
 rw [← hv]
 simp only [results,h]
 simp [Sem.run_bind,Result.andThen]
structure WSt (w:World) (sl:Value) (W:World):Prop where
 below:Below w.heap.size w W
 size:w.heap.size+1+1+1+1≤W.heap.size
 bh:Boxed W (w.heap.size) 22 (sl)
 r1:Boxed W (w.heap.size+1) 3 (.int .i64 0)
 r2:Boxed W (w.heap.size+1+1) 31 (.int .i64 0)
 be:Boxed W (w.heap.size+1+1+1) 22 (sl)
theorem WSt.bel {w:World} {sl:Value} {W W':World} (h:WSt w sl W) (hb:Below (w.heap.size+1+1+1+1) W W'):WSt w sl W' :=
 ⟨h.below.trans (hb.mono (by omega)),Nat.le_trans h.size hb.size,boxed_bel h.bh hb (by omega),boxed_bel h.r1 hb (by omega),boxed_bel h.r2 hb (by omega),boxed_bel h.be hb (by omega)⟩
def WInv (w:World) (sl:Value) (h:List Ev) (pre:List (Fin h.length)) (W:World):Prop :=
 WSt w sl W∧(pre <+: List.finRange h.length→∀ j,j < pre.length→wrongAt h j=false)
def WOut (w:World) (h:List Ev) (c:Code) (pre:List (Fin h.length)) (W:World):Prop :=
 c=.ret∧w.heap.size+1+1+1+1≤W.heap.size∧Below w.heap.size w W∧∃ i e:Nat,Boxed W (w.heap.size+1) 3 (.int .i64 (i:Int))∧Boxed W (w.heap.size+1+1) 31 (.int .i64 (e:Int))∧(pre <+: List.finRange h.length→formedL h=(i,e))
set_option maxHeartbeats 8000000 in
theorem pformed8_any (h:List Ev) (v:Value) (w:World) (hT:IsEvs w v h) (hG:∀ x∈h,goodE x) :
 Calls Tryz.prog 25 #[v] w fun e w'=>e=.returned (.tuple #[.int .i64 ((formedL h).1:Int),.int .i64 ((formedL h).2:Int)])∧Below w.heap.size w w':=by
 have hT0:=hT
 obtain ⟨a,cap,rfl,h1,h2,h3,HC⟩:=hT.some_at
 clear HC hT
 by_cases hbig:256 < h.length
 ·rw [formed_big h hbig]
  have j:(256:Int) < (h.length:Int):=by omega
  have b1:=(((Below.refl w.heap.size w).alloc (Nat.le_refl _) (.cells #[.slice a h.length cap] 22)).alloc (by simp) (.cells #[.int .i64 0] 3)).alloc (by simp;omega) (.cells #[.int .i64 0] 31)
  clear hT0 hG hbig
  go_enter Tryz.func25,Tryz.ntmps25
  go_wp2_with fail
  refine bodyPost_ret (v:=.tuple #[.int .i64 0,.int .i64 4]) (results_cells8 rfl _ _ _ (by simp [go_sem])) rfl ⟨rfl,?_⟩
  exact (((Below.refl w.heap.size w).alloc (Nat.le_refl _) _).alloc (by simp) _).alloc (by simp;omega) _
 have hl:¬ 256 < h.length:=hbig
 have HL:Hid (¬ 256 < h.length):=hl
 have jb:¬ (256:Int) < (h.length:Int):=by omega
 refine (callsIn_wide (n:=3)).1 ?_
 refine callsIn_of_wp_marks Tryz.func25 rfl trivial ?_ rfl
 simp only [Tryz.ntmps25,List.size_toArray,List.length_cons,List.length_nil,Nat.reduceAdd,Nat.reduceSub,Array.replicate_succ,Array.replicate_zero,List.push_toArray,List.append_toArray,List.nil_append,List.cons_append]
 gi_wp2_with ((try refine ⟨trivial,?_⟩);gi_at_call 44;refine (callsIn_wide.2 (pevents8_any _ _ _ _)).mono ?_;rintro e w2 ⟨rfl,rfl⟩)
 have hS0:WSt w (.slice a h.length cap) ((((w.alloc (.cells #[.slice a h.length cap] 22)).alloc (.cells #[.int .i64 0] 3)).alloc (.cells #[.int .i64 0] 31)).alloc (.cells #[.slice a h.length cap] 22)):=by
  have b0:=((((Boxed.new w 22 (.slice a h.length cap)).alloc (.cells #[.int .i64 0] 3)).alloc (.cells #[.int .i64 0] 31)).alloc (.cells #[.slice a h.length cap] 22))
  have b1:=(((Boxed.new (w.alloc (.cells #[.slice a h.length cap] 22)) 3 (.int .i64 0)).alloc (.cells #[.int .i64 0] 31)).alloc (.cells #[.slice a h.length cap] 22))
  have b2:=((Boxed.new ((w.alloc (.cells #[.slice a h.length cap] 22)).alloc (.cells #[.int .i64 0] 3)) 31 (.int .i64 0)).alloc (.cells #[.slice a h.length cap] 22))
  have b3:=(Boxed.new (((w.alloc (.cells #[.slice a h.length cap] 22)).alloc (.cells #[.int .i64 0] 3)).alloc (.cells #[.int .i64 0] 31)) 22 (.slice a h.length cap))
  (try simp only [World.size_alloc] at b0 b1 b2 b3)
  exact ⟨(((((Below.refl _ w).alloc (by first | exact Nat.le_refl _ | (simp only [World.size_alloc];omega)) _).alloc (by first | exact Nat.le_refl _ | (simp only [World.size_alloc];omega)) _).alloc (by first | exact Nat.le_refl _ | (simp only [World.size_alloc];omega)) _).alloc (by first | exact Nat.le_refl _ | (simp only [World.size_alloc];omega)) _),(by simp),b0,b1,b2,b3⟩
 obtain ⟨W0,hW0⟩:∃ W0,((((w.alloc (.cells #[.slice a h.length cap] 22)).alloc (.cells #[.int .i64 0] 3)).alloc (.cells #[.int .i64 0] 31)).alloc (.cells #[.slice a h.length cap] 22))=W0:=⟨_,rfl⟩
 have sW0:W0.heap.size=w.heap.size+1+1+1+1:=by rw [← hW0];simp
 change Code.wpIn _ _ _ _ _ _ ((((w.alloc (.cells #[.slice a h.length cap] 22)).alloc (.cells #[.int .i64 0] 3)).alloc (.cells #[.int .i64 0] 31)).alloc (.cells #[.slice a h.length cap] 22))
 rw [hW0] at hS0 ⊢
 clear hW0
 refine wpIn_rangeFunc_ownH rfl (by omega) (gf:=61) (lb:=#[.pointer (some ⟨w.heap.size+1+1+1,0,none⟩)]) rfl trivial (enters_of Tryz.func61 (by kernel_rfl) rfl)
  (events8_stops h w a cap hT0 (w.heap.size+1+1+1) (3 - 1) W0 hS0.below hS0.be) (fun h k=>kpE_t h k) (kpE_b (by omega) (by omega)) (Below.refl _ _) (fun _=>rfl)
  (WInv w (.slice a h.length cap) h) (WOut w h)
  (ownFrom_of_below (fun _ W ⟨h1,_⟩=>by rw [sW0];exact h1.size) (fun _ W W' ⟨h1,h2⟩ hb=>⟨h1.bel (by rw [sW0] at hb;exact hb),h2⟩))
  (fun c=>ownFrom_of_below (fun _ W ⟨h1,h2,h3⟩=>by rw [sW0];exact h2) (fun _ W W' ⟨h1,h2,h3,i,e,h4,h5,h6⟩ hb=>by
   rw [sW0] at hb
   exact ⟨h1,Nat.le_trans h2 hb.size,h3.trans (hb.mono (by omega)),i,e,boxed_bel h4 hb (by omega),boxed_bel h5 hb (by omega),h6⟩))
  ⟨hS0,fun _ j hj=>by simp at hj⟩
  (fun x a' W=>a'={ tmps:=#[.slice a h.length cap,.pointer (some ⟨w.heap.size,0,none⟩),.pointer (some ⟨w.heap.size+1,0,none⟩),.pointer (some ⟨w.heap.size+1+1,0,none⟩),.int .i64 (x.val:Int),undef,undef,undef,.slice a h.length cap,.int .i64 (h.length:Int),.bool false,.slice a h.length cap,eventsF8 (w.heap.size+1+1+1),.int .i64 (x.val:Int),evW h[x.val],undef,undef,undef,undef,undef,undef,undef,undef,undef,undef,undef,undef,undef,undef,undef,undef,undef,undef,undef,undef,undef,undef,undef,undef],defers:=[] })
  (fun x a' _ A B row hs hg hr=>hs)
  ?assign ?body ?done ?stop
 case assign =>
  rintro l pre x W K ⟨hS,hp⟩ hK
  gi_wp2
  exact hK _ _ (KeepsFrom.refl _ _) ⟨Below.refl _ _,rfl⟩ ⟨hS,hp⟩ rfl
 case body =>
  rintro l pre x a' W hl hrec ⟨hS,hp⟩ rfl hlt
  have HW0:Hid (W0.heap.size=w.heap.size+1+1+1+1):=sW0
  clear sW0 hS0 hl hrec
  have hsz:=hS.size
  have hxn:=x.isLt
  obtain ⟨i,hxi⟩:∃ i,x.val=i:=⟨_,rfl⟩
  have HI:Hid (x.val=i):=hxi
  obtain ⟨ye,hye⟩:∃ y,evW h[x.val]=y:=⟨_,rfl⟩
  rw [hye]
  clear hye
  rw [hxi] at hxn ⊢
  clear hxi
  have c0:=hS.bh.cell
  have C:=pfault8_any h (.slice a h.length cap) W (hT0.below hS.below) i hxn (by omega)
  by_cases hm:formStep h i=0
  ·have HM:Hid (formStep h i=0):=hm
   rw [hm] at C
   clear hm
   gi_wp2_with ((try refine ⟨trivial,?_⟩);gi_at_call 45;refine (CallsIn.inRound l (callsIn_wide.2 C)).mono ?_;clear C;rintro e W1 ⟨rfl,b1⟩;refine Hid.out ?_)
   have s1:=b1.size
   have hS2:=hS.bel (b1.mono hsz)
   have HF:Hid (KeepsFrom W0.heap.size W W1∧KpE w.heap.size (w.heap.size+1+1+1) W W1∧WInv w (.slice a h.length cap) h (pre++[x]) W1) :=
    ⟨(keeps_of_below b1).from _,⟨b1.mono (by omega),b1.block _ (by omega)⟩,hS2,fun hpre j hj=>by
      obtain ⟨hp1,hp2,hp3⟩:=fin_prefix hpre
      rw [List.length_append,List.length_singleton] at hj
      have ei:=HI.out
      refine upto_next (wrongAt h) pre.length (hp hp1) ?_ j hj
      unfold wrongAt
      rw [← hp2,ei,HM.out]
      rfl⟩
   clear hS hS2 hp HI HM
   refine Lib.hid ?_
   gi_wp2
   exact HF.out
  ·have HM:Hid (¬ formStep h i=0):=hm
   obtain ⟨c,hc⟩:∃ c,formStep h i=c:=⟨_,rfl⟩
   have HCc:Hid (formStep h i=c):=hc
   rw [hc] at C hm
   have ec:((c:Int) != 0)=true:=by rw [bne_iff_ne];omega
   have ec2:((c:Int)==0)=false:=by rw [beq_eq_false_iff_ne];omega
   clear hm hc
   gi_wp2_with ((try refine ⟨trivial,?_⟩);gi_at_call 45;refine (CallsIn.inRound l (callsIn_wide.2 C)).mono ?_;clear C;rintro e W1 ⟨rfl,b1⟩;refine Hid.out ?_)
   have s1:=b1.size
   have hS2:=hS.bel (b1.mono hsz)
   have f1:=hS2.r1.cell
   have g1:=hS2.r1.frozen
   have f2:=hS2.r2.cell
   have g2:=hS2.r2.frozen
   have HF:Hid (KeepsFrom W0.heap.size W ((W1.setCell ⟨w.heap.size+1,0,none⟩ (.int .i64 (i:Int))).setCell ⟨w.heap.size+1+1,0,none⟩ (.int .i64 (c:Int)))∧WOut w h .ret (pre++[x]) ((W1.setCell ⟨w.heap.size+1,0,none⟩ (.int .i64 (i:Int))).setCell ⟨w.heap.size+1+1,0,none⟩ (.int .i64 (c:Int)))):=by
    refine ⟨(((keeps_of_below b1).trans (KeepsOthers.setCell _ _ _)).trans (KeepsOthers.setCell _ _ _)).from _,rfl,by simp;omega,(hS2.below.setCell (p:=⟨w.heap.size+1,0,none⟩) (by simp) _).setCell (p:=⟨w.heap.size+1+1,0,none⟩) (by simp;omega) _,i,c,(hS2.r1.set _).other (by omega) _,(hS2.r2.other (by omega) _).set _,fun hpre=>?_⟩
    obtain ⟨hp1,hp2,hp3⟩:=fin_prefix hpre
    have ei:=HI.out
    exact formed_at h HL.out i c hxn (fun j hj=>hp hp1 j (by omega)) HCc.out (by have:=HM.out;rw [HCc.out] at this;exact this)
   clear hS hS2 hp HI HM
   refine Lib.hid ?_
   gi_wp2
   exact HF.out
 case done =>
  rintro D ys W hD rfl ⟨hS,hp⟩ hK
  have HA:Hid (∀ j,j < h.length→wrongAt h j=false):=fun j hj=>hp (List.prefix_refl _) j (by rw [List.length_finRange];exact hj)
  have HD:Hid (w.heap.size+1+1+1+1≤D):=by rw [sW0] at hD;exact hD
  have c0:=hS.bh.cell
  have C:=plives8_any h (.slice a h.length cap) W (hT0.below hS.below) hG (by omega)
  clear sW0 hS0 hD hp
  gi_wp2_with ((try refine ⟨trivial,?_⟩);gi_at_call 46;refine (callsIn_wide.2 C).mono ?_;clear C;rintro e W1 ⟨r,rfl,b1,hrow⟩;refine Hid.out ?_)
  obtain ⟨gr,cr,rfl,hcr⟩:=own_slice9 hrow
  have hsz:=hS.size
  have hS1:=hS.bel (b1.mono hsz)
  have z1:=b1.size
  have hK1:=(keeps_of_below b1).same D _ hK rfl
  have hDlt:D < W1.heap.size:=(Array.getElem?_eq_some_iff.1 hK1).1
  obtain ⟨L,hLs⟩:∃ L,livesL h=L:=⟨_,rfl⟩
  have HLs:Hid (livesL h=L):=hLs
  rw [hLs] at hrow hcr ⊢
  have hlen:L.length≤300:=by rw [← hLs];have:=lives_len h;omega
  clear hLs hS
  have HS1:=Lib.hid hS1
  have HB1:=Lib.hid b1
  have c1:=hS1.bh.cell
  refine Lib.hid ?_
  gi_wp2
  gi_loopw [25] (fun i wr=>∃ k:Nat,k≤L.length∧i=.int .i64 k∧Hid (∀ j (hj:j < k) (hl:j < L.length),L[j].2.2.1≠h.length)∧Below W1.heap.size W1 wr) (fun i _=>L.length - (intOf i).toNat)
  case atStart=>exact ⟨0,Nat.zero_le _,rfl,(fun j hj=>by omega),Below.refl _ _⟩
  case round =>
   obtain ⟨k,hk,rfl,HQ,hB⟩:=hrel
   have hwr:=hB.size
   have hSr:=HS1.out.bel (hB.mono HS1.out.size)
   have c2:=hSr.bh.cell
   have hKr:wr.heap[D]?=some (.deferred (some [])):=(hB.block D hDlt).trans hK1
   have f1:=hSr.r1.cell
   have g1:=hSr.r1.frozen
   have f2:=hSr.r2.cell
   have g2:=hSr.r2.frozen
   by_cases hlt:k < L.length
   ·have ji:(k:Int) < (L.length:Int):=by omega
    obtain ⟨g,rfl⟩:∃ g,gr=some ⟨g,0,none⟩:=by
     rcases hrow.2 with ⟨e,h0⟩ | ⟨g,cp,cur,e,_⟩
     ·omega
     ·simp at e;exact ⟨g,e.1⟩
    have hgl:g < W1.heap.size:=(hrow.lt g rfl).2
    have l0:=(hB.cell (p:=⟨g,k*4,none⟩) hgl).trans (life_cell hrow hlt 0 (by rw [lifV_len];omega))
    have l1:=(hB.cell (p:=⟨g,k*4+1,none⟩) hgl).trans (life_cell hrow hlt 1 (by rw [lifV_len];omega))
    have l2:=(hB.cell (p:=⟨g,k*4+2,none⟩) hgl).trans (life_cell hrow hlt 2 (by rw [lifV_len];omega))
    have l3:=(hB.cell (p:=⟨g,k*4+3,none⟩) hgl).trans (life_cell hrow hlt 3 (by rw [lifV_len];omega))
    simp only [lifV,List.getElem_cons_succ,List.getElem_cons_zero] at l0 l1 l2 l3
    have HM:Hid (L[k]∈L):=List.getElem_mem _
    obtain ⟨⟨t0,t1,t2,t3⟩,hy⟩:∃ y,L[k]=y:=⟨_,rfl⟩
    have HY:Hid (L[k]=(t0,t1,t2,t3)):=hy
    rw [hy] at l0 l1 l2 l3 HM
    simp only at l0 l1 l2 l3
    clear hy
    have bA:=(Below.refl wr.heap.size wr).alloc (Nat.le_refl _) (.cells #[.int .i64 t0,.int .i64 (t1:Int),.int .i64 (t2:Int),.bool t3] 51)
    have hSa:=hSr.bel (bA.mono (by have:=HS1.out.size;omega))
    have ca:=hSa.bh.cell
    have fa1:=hSa.r1.cell
    have ga1:=hSa.r1.frozen
    have fa2:=hSa.r2.cell
    have ga2:=hSa.r2.frozen
    have hKa:=(KeepsOthers.alloc wr (.cells #[.int .i64 t0,.int .i64 (t1:Int),.int .i64 (t2:Int),.bool t3] 51)).same D _ hKr rfl
    have hBa:=hB.trans (bA.mono hwr)
    by_cases ho:t2=h.length
    ·have e1:((t2:Int)==(h.length:Int))=true:=by rw [ho];exact beq_self_eq_true _
     have HE:Hid (formedL h=(h.length,9)):=by
      obtain ⟨i,hi,hoi⟩:=lives_open h (t0,t1,t2,t3) (by rw [HLs.out];exact HM.out) ho
      exact formed_open h HL.out HA.out i hi hoi
     clear ho HM HY HQ
     gi_wp2
     have hK':=((KeepsOthers.setCell (wr.alloc (.cells #[.int .i64 t0,.int .i64 (t1:Int),.int .i64 (t2:Int),.bool t3] 51)) ⟨w.heap.size+1,0,none⟩ (.int .i64 (h.length:Int))).trans (KeepsOthers.setCell _ ⟨w.heap.size+1+1,0,none⟩ (.int .i64 9))).same D _ hKa rfl
     have B9:=(hSa.below.setCell (p:=⟨w.heap.size+1,0,none⟩) (by simp) (.int .i64 (h.length:Int))).setCell (p:=⟨w.heap.size+1+1,0,none⟩) (by simp;omega) (.int .i64 9)
     have R1:=(hSa.r1.set (.int .i64 (h.length:Int))).other (B':=w.heap.size+1+1) (by omega) (.int .i64 9)
     have R2:=(hSa.r2.other (B':=w.heap.size+1) (by omega) (.int .i64 (h.length:Int))).set (.int .i64 9)
     refine ⟨by simp,.inl ⟨_,_,rfl,run_takeDeferred hK',?_⟩⟩
     have d1:=cell_kept R1.cell (grownBy_putObj' _ D (.deferred none)) (fun r e=>by cases e;exact ⟨_,hK',rfl⟩)
     have d2:=cell_kept R2.cell (grownBy_putObj' _ D (.deferred none)) (fun r e=>by cases e;exact ⟨_,hK',rfl⟩)
     refine ⟨.tuple #[.int .i64 (h.length:Int),.int .i64 9],?_,by rw [HE.out];rfl,B9.trans (belowK_b (w:=w) (Nat.le_refl _) _ D _ _ (by have:=HD.out;omega) hK' rfl rfl)⟩
     refine results_cells8 rfl _ _ _ ?_
     simp [go_sem,d1,d2]
    ·have e1:((t2:Int)==(h.length:Int))=false:=by rw [beq_eq_false_iff_ne];omega
     have HQ':Hid (∀ j (hj:j < k+1) (hl:j < L.length),L[j].2.2.1≠h.length):=fun j hj hl=>by
      rcases Nat.lt_or_ge j k with h' | h'
      ·exact HQ.out j h' hl
      ·obtain rfl:j=k:=by omega
       rw [HY.out]
       exact ho
     clear ho HM HY HQ
     gi_wp2
     go_roundw
     case rel=>exact ⟨k+1,by omega,by first | go_num | simp,HQ',hBa⟩
     case measure=>simp [intOf];omega
   ·have HE:Hid (formedL h=(h.length,0)):=formed_fine h HL.out HA.out (lives_shut h (fun y hy=>by
     rw [HLs.out] at hy
     obtain ⟨j,hj,rfl⟩:=List.getElem_of_mem hy
     exact HQ.out j (by omega) hj))
    obtain rfl:k=L.length:=by omega
    clear HQ
    gi_wp2
    have hK':=((KeepsOthers.setCell wr ⟨w.heap.size+1,0,none⟩ (.int .i64 (h.length:Int))).trans (KeepsOthers.setCell _ ⟨w.heap.size+1+1,0,none⟩ (.int .i64 0))).same D _ hKr rfl
    have B9:=(hSr.below.setCell (p:=⟨w.heap.size+1,0,none⟩) (by simp) (.int .i64 (h.length:Int))).setCell (p:=⟨w.heap.size+1+1,0,none⟩) (by simp;omega) (.int .i64 0)
    have R1:=(hSr.r1.set (.int .i64 (h.length:Int))).other (B':=w.heap.size+1+1) (by omega) (.int .i64 0)
    have R2:=(hSr.r2.other (B':=w.heap.size+1) (by omega) (.int .i64 (h.length:Int))).set (.int .i64 0)
    refine ⟨by simp,.inl ⟨_,_,rfl,run_takeDeferred hK',?_⟩⟩
    have d1:=cell_kept R1.cell (grownBy_putObj' _ D (.deferred none)) (fun r e=>by cases e;exact ⟨_,hK',rfl⟩)
    have d2:=cell_kept R2.cell (grownBy_putObj' _ D (.deferred none)) (fun r e=>by cases e;exact ⟨_,hK',rfl⟩)
    refine ⟨.tuple #[.int .i64 (h.length:Int),.int .i64 0],?_,by rw [HE.out];rfl,B9.trans (belowK_b (w:=w) (Nat.le_refl _) _ D _ _ (by have:=HD.out;omega) hK' rfl rfl)⟩
    refine results_cells8 rfl _ _ _ ?_
    simp [go_sem,d1,d2]
 case stop =>
  rintro D c pre W hD hSp ⟨rfl,hs,hb,i,e,hr1,hr2,hbad⟩ hK
  have HE:Hid (formedL h=(i,e)):=hbad hSp
  have HD:Hid (w.heap.size+1+1+1+1≤D):=by rw [sW0] at hD;exact hD
  clear sW0 hS0 hD hbad
  gi_wp2
  refine ⟨by simp,.inl ⟨_,_,rfl,run_takeDeferred hK,?_⟩⟩
  have d1:=cell_kept hr1.cell (grownBy_putObj' _ D (.deferred none)) (fun r e=>by cases e;exact ⟨_,hK,rfl⟩)
  have d2:=cell_kept hr2.cell (grownBy_putObj' _ D (.deferred none)) (fun r e=>by cases e;exact ⟨_,hK,rfl⟩)
  refine ⟨.tuple #[.int .i64 (i:Int),.int .i64 (e:Int)],?_,by rw [HE.out],hb.trans (belowK_b (w:=w) (Nat.le_refl _) _ D _ _ (by have:=HD.out;omega) hK rfl rfl)⟩
  refine results_cells8 rfl _ _ _ ?_
  simp [go_sem,d1,d2]
end Go.Proofs.YtiihegldhnlleaaGreat
