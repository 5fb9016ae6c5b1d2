/-
  What ring.weave makes.
-/
import Derived.Test.YtiihegldhnlleaaGreatCL1a
namespace Go.Proofs.YtiihegldhnlleaaGreat
set_option maxRecDepth 100000
open Go.RowKit Go.Maps
set_option linter.unusedVariables false
attribute [local go_sem] ba_size
abbrev tSt:TypeId:=69
def WvRes (w:World) (nodes:List Int) (l:List Stp) (vl:Value) (e:Ending) (w':World):Prop :=
 ∃ N vn m1 m2 m3,e=.returned (webV vl vn m1 m2 m3)∧NumsOf nodes N∧Below w.heap.size w w'∧Web w' l N vl vn m1 m2 m3∧CMap w' m1 17592186044416 (cntF l (inN N))∧w.heap.size≤m1
def zK (N:List Int) (k:Nat):Cnt:=fun x=>if x∈N.take k then some (0,0) else none
theorem zK_next (N:List Int) (k:Nat) (h:k < N.length):zK N (k+1)=updC (zK N k) N[k] (0,0):=by
 funext x
 have hm:x∈N.take (k+1)↔x∈N.take k∨x=N[k]:=by rw [List.take_succ_eq_append_getElem h,List.mem_append,List.mem_singleton]
 simp only [zK,updC]
 by_cases e:x=N[k]
 ·rw [if_pos e,if_pos (hm.2 (.inr e))]
 ·rw [if_neg e]
  by_cases e2:x∈N.take k
  ·rw [if_pos e2,if_pos (hm.2 (.inl e2))]
  ·rw [if_neg e2,if_neg (fun h=>(hm.1 h).elim e2 e)]
theorem zK_all (N:List Int) (l:List Stp):zK N N.length=cntK l (inN N) 0:=by
 funext x
 unfold zK cntK inN inK outK
 rw [List.take_length]
 by_cases e:x∈N
 ·simp [e]
 ·simp [e]
theorem own_at11 {W:World} {B n c:Nat} {a:Option Addr} {K:List Int} (h:W.ownsRow B 3 1 (.slice a n c) n (iV K)) (k:Nat) (hk:k < n):∃ g,a=some ⟨g,0,none⟩∧W.cell? ⟨g,k,none⟩=some (.int .i64 (K.getD k 0)):=by
 rcases h.2 with ⟨e,h0⟩ | ⟨g,cp,cur,e,_⟩
 ·omega
 ·obtain ⟨rfl,rfl⟩:a=some ⟨g,0,none⟩∧c=cp:=by simpa using e
  have hl:(iV K).length=n*1:=h.1
  rw [iV_length] at hl
  refine ⟨g,rfl,?_⟩
  rw [h.cellAt k (by omega),iV_at K k (by omega)]
  simp [show k < K.length by omega]
theorem size_web:(Tryz.prog.info? 109).map (·.size)=some 5:=by kernel_rfl
theorem TwoF.mono {W:World} {B m2 m3 n n':Nat} {f2 f3:Int→Option Value} {g2 g3:Int→List Nat} (h:TwoF W B m2 m3 n f2 f3 g2 g3) (hn:n≤n'):TwoF W B m2 m3 n' f2 f3 g2 g3 :=
 ⟨h.v2.mono hn,h.v3.mono hn,h.o2,h.o3,h.a2,h.a3,h.a23⟩
structure WvS (w V:World) (b0 B B2:Nat) (cs cz:Array Value) (vN:Value) (nN:Nat) (N:List Int) (c:Cnt) (n:Nat) (f2 f3:Int→Option Value) (g2 g3:Int→List Nat):Prop where
 cm:CMap V (b0+1) 17592186044416 c
 tw:TwoF V B2 (b0+1+1) (b0+1+1+1) n f2 f3 g2 g3
 bx:SBox V (b0+1+1+1+1) tW cs
 rs:SBox V b0 tW cz
 row:V.ownsRow B 3 1 vN nN (iV N)
 rlt:∀ g,vN.ownBlock=some g→g < B2
 bl:Below w.heap.size w V
 sz:B2≤V.heap.size
 s1:b0+5≤B
 s2:B≤B2
 s3:w.heap.size=b0
section
variable {w V V':World} {b0 B B2 nN n:Nat} {cs cz:Array Value} {vN:Value} {N:List Int} {c c':Cnt} {f2 f3:Int→Option Value} {g2 g3:Int→List Nat}
theorem WvS.bel (h:WvS w V b0 B B2 cs cz vN nN N c n f2 f3 g2 g3) (hb:Below V.heap.size V V'):WvS w V' b0 B B2 cs cz vN nN N c n f2 f3 g2 g3 :=
 ⟨h.cm.bel hb h.cm.lt,h.tw.bel hb,h.bx.below hb,h.rs.below hb,h.row.kept (grown_below8 none hb) (by cases vN.ownBlock<;>simp),h.rlt,bel_trans h.bl hb,Nat.le_trans h.sz hb.size,h.s1,h.s2,h.s3⟩
theorem WvS.drew (h:WvS w V b0 B B2 cs cz vN nN N c n f2 f3 g2 g3):WvS w V.drew b0 B B2 cs cz vN nN N c n f2 f3 g2 g3:=h.bel (Below.refl _ _).drew
theorem WvS.mono (h:WvS w V b0 B B2 cs cz vN nN N c n f2 f3 g2 g3) {n':Nat} (hn:n≤n'):WvS w V b0 B B2 cs cz vN nN N c n' f2 f3 g2 g3 :=
 ⟨h.cm,h.tw.mono hn,h.bx,h.rs,h.row,h.rlt,h.bl,h.sz,h.s1,h.s2,h.s3⟩
theorem WvS.turn (h:WvS w V b0 B B2 cs cz vN nN N c n f2 f3 g2 g3) (hc:CMap V' (b0+1) 17592186044416 c') (hg:V.grownBy V' (some (b0+1))):WvS w V' b0 B B2 cs cz vN nN N c' n f2 f3 g2 g3:=by
 have h1:=h.s1;have h2:=h.s2;have h3:=h.s3
 exact ⟨hc,h.tw.turned hg (by omega) (by omega) (by omega),(hg.block _ h.bx.lt (fun e=>by have e2:=Option.some.inj e;omega)).trans h.bx,(hg.block _ h.rs.lt (fun e=>by have e2:=Option.some.inj e;omega)).trans h.rs,h.row.kept hg (own_off h.row (by omega)),h.rlt,h.bl.grown hg (by have:=h.bl.size;omega) (fun j hj=>by have e2:=Option.some.inj hj;omega),Nat.le_trans h.sz hg.size,h1,h2,h3⟩
theorem WvS.stay (h:WvS w V b0 B B2 cs cz vN nN N c n f2 f3 g2 g3) (o:Obj) {W2 W3:World} {v:Value} {kk mm:Nat} {xs:List Value} (hown:V.ownsRow B2 3 1 v kk xs) (hg:(V.alloc o).grownBy W2 v.ownBlock) (hg3:W2.grownBy W3 (some mm)) (hmm:mm=b0+1+1∨mm=b0+1+1+1) :
 CMap W3 (b0+1) 17592186044416 c∧SBox W3 (b0+1+1+1+1) tW cs∧SBox W3 b0 tW cz∧W3.ownsRow B 3 1 vN nN (iV N)∧Below w.heap.size w W3∧B2≤W3.heap.size:=by
 have h1:=h.s1;have h2:=h.s2;have h3:=h.s3
 have hA:=h.bel ((Below.refl _ V).alloc (Nat.le_refl _) o)
 have off:∀ m,m < B2→some m≠v.ownBlock:=fun m hm e=>by have:=(hown.lt m e.symm).1;omega
 have blk:∀ m,m < B2→m≠mm→W3.heap[m]?=(V.alloc o).heap[m]?:=fun m hm hne=>by
  have hs:=hA.sz
  have e1:=hg.block m (by omega) (off m hm)
  rw [← e1]
  exact hg3.block m (by have:=hg.size;omega) (fun e=>hne (Option.some.inj e))
 have hmm2:mm < B2:=by omega
 refine ⟨VMap.same hA.cm (blk _ (by omega) (by omega)),(blk _ (by omega) (by omega)).trans hA.bx,(blk _ (by omega) (by omega)).trans hA.rs,?_,?_,?_⟩
 ·have r2:W2.ownsRow B 3 1 vN nN (iV N):=hA.row.kept hg (by
   cases hv:vN.ownBlock with
   | none=>exact .inl rfl
   | some g=>exact .inr (off g (h.rlt g hv)))
  exact r2.kept hg3 (own_off r2 (by omega))
 ·have b2:Below w.heap.size w W2:=hA.bl.grown hg (by have:=hA.bl.size;omega) (fun j hj=>by have:=(hown.lt j hj).1;omega)
  exact b2.grown hg3 (by have:=b2.size;omega) (fun j hj=>by have e2:=Option.some.inj hj;omega)
 ·have:=hA.sz;have:=hg.size;have:=hg3.size;omega
theorem WvS.push2 (h:WvS w V b0 B B2 cs cz vN nN N c n f2 f3 g2 g3) (x:Int) (k:Nat) (o:Obj) {W2 W3:World} {v':Value}
 (hown:W2.ownsRow B2 3 1 v' ((g2 x).length+1) (plV (g2 x)++[.int .i64 (k:Int)])) (hg:(V.alloc o).grownBy W2 ((f2 x).getD nilS).ownBlock) (hat:v'.ownBlock=((f2 x).getD nilS).ownBlock∨v'.ownBlock=some (V.alloc o).heap.size)
 (hM:VMap W3 (b0+1+1) (n+1) (updV f2 x v')) (hg3:W2.grownBy W3 (some (b0+1+1))):WvS w W3 b0 B B2 cs cz vN nN N c (n+1) (updV f2 x v') f3 (updG g2 x k) g3:=by
 have h1:=h.s1;have h2:=h.s2
 obtain ⟨a1,a2,a3,a4,a5,a6⟩:=h.stay o (h.tw.o2 x) hg hg3 (.inl rfl)
 exact ⟨a1,h.tw.push x k o (by omega) (by omega) h.sz hown hg hat hM hg3 (by omega),a2,a3,a4,h.rlt,a5,a6,h1,h2,h.s3⟩
theorem WvS.push3 (h:WvS w V b0 B B2 cs cz vN nN N c n f2 f3 g2 g3) (x:Int) (k:Nat) (o:Obj) {W2 W3:World} {v':Value}
 (hown:W2.ownsRow B2 3 1 v' ((g3 x).length+1) (plV (g3 x)++[.int .i64 (k:Int)])) (hg:(V.alloc o).grownBy W2 ((f3 x).getD nilS).ownBlock) (hat:v'.ownBlock=((f3 x).getD nilS).ownBlock∨v'.ownBlock=some (V.alloc o).heap.size)
 (hM:VMap W3 (b0+1+1+1) (n+1) (updV f3 x v')) (hg3:W2.grownBy W3 (some (b0+1+1+1))):WvS w W3 b0 B B2 cs cz vN nN N c (n+1) f2 (updV f3 x v') g2 (updG g3 x k):=by
 have h1:=h.s1;have h2:=h.s2
 obtain ⟨a1,a2,a3,a4,a5,a6⟩:=h.stay o (h.tw.o3 x) hg hg3 (.inr rfl)
 exact ⟨a1,(h.tw.symm.push x k o (by omega) (by omega) h.sz hown hg hat hM hg3 (by omega)).symm,a2,a3,a4,h.rlt,a5,a6,h1,h2,h.s3⟩
end
theorem updG_fr (l:List Stp) (S:Int→Bool) (k:Nat) (h1:S (stA l k).1=true) (h2:S (stA l k).2.1=true):frK l S (k+1)=updG (frK l S k) (stA l k).1 k:=by
 funext x;rw [frK_yes l S k h1 h2 x];rfl
theorem updG_to (l:List Stp) (S:Int→Bool) (k:Nat) (h1:S (stA l k).1=true) (h2:S (stA l k).2.1=true):toK l S (k+1)=updG (toK l S k) (stA l k).2.1 k:=by
 funext x;rw [toK_yes l S k h1 h2 x];rfl
set_option maxHeartbeats 16000000 in
theorem pweave11_any (v vl:Value) (nodes:List Int) (l:List Stp) (w:World) (hO:IsInts w v nodes) (hSv:Shp v) (okn:∀ x∈nodes,okS x) (hn:nodes.length≤17592186043904) (hT:IsSts w vl l) (hSl:Shp vl) (okl:∀ x∈l,goodSt x) (hl:l.length≤3518437208780) :
 Calls Tryz.prog 75 #[v,vl] w fun e w'=>WvRes w nodes l vl e w':=by
 have hmm:=@run_makeMap Tryz.prog
 obtain ⟨i0,hi,hz0,hz1,hz2⟩:=info_parts int_info
 have HT:=Lib.hid hT
 have HSl:=Lib.hid hSl
 have HOl:=Lib.hid okl
 have HOn:=Lib.hid okn
 obtain ⟨al,cl,rfl,p1,p2,p3,HL⟩:=hT.reads
 obtain ⟨nl,hnl⟩:∃ nl,l.length=nl:=⟨_,rfl⟩
 have HNl:=Lib.hid hnl
 have Hok:Hid (∀ i,i < nl→I64 (stA l i).1∧I64 (stA l i).2.1):=fun i hi=>by
  have:=okl _ (stA_mem l i (by omega))
  exact ⟨this.1,this.2.1⟩
 rw [hnl] at hl p1 p3
 have CK:=fun W hW=>pcloneI_any v nodes W (hO.below (w':=W) hW) hSv hn
 obtain ⟨vv,cc,hvv,_⟩:=hO.some_at
 subst hvv
 rw [hnl]
 obtain ⟨w5,hw5⟩:∃ w5,((((w.alloc (.cells #[.slice none 0 0,.slice none 0 0,.map none,.map none,.map none] 109)).alloc (.map #[] 0)).alloc (.map #[] 0)).alloc (.map #[] 0)).alloc (.cells #[.slice al nl cl,.slice none 0 0,.map (some (w.heap.size+1)),.map (some (w.heap.size+1+1)),.map (some (w.heap.size+1+1+1))] 109)=w5:=⟨_,rfl⟩
 obtain ⟨b0,hb0⟩:∃ b0,w.heap.size=b0:=⟨_,rfl⟩
 have hs5:w5.heap.size=b0+5:=by rw [← hw5,← hb0];simp
 have b5:Below w.heap.size w w5:=by
  rw [← hw5]
  exact (((((Below.refl w.heap.size w).alloc (Nat.le_refl _) _).alloc (by simp) _).alloc (by simp;omega) _).alloc (by simp;omega) _).alloc (by simp;omega) _
 have x5:SBox w5 (b0+1+1+1+1) tW (webC (.slice al nl cl) (.slice none 0 0) (b0+1) (b0+1+1) (b0+1+1+1)):=by
  rw [← hw5,← hb0]
  have:=SBox.new ((((w.alloc (.cells #[.slice none 0 0,.slice none 0 0,.map none,.map none,.map none] 109)).alloc (.map #[] 0)).alloc (.map #[] 0)).alloc (.map #[] 0)) tW (webC (.slice al nl cl) (.slice none 0 0) (w.heap.size+1) (w.heap.size+1+1) (w.heap.size+1+1+1))
  simpa using this
 have r5:SBox w5 b0 tW #[.slice none 0 0,.slice none 0 0,.map none,.map none,.map none]:=by
  rw [← hw5,← hb0]
  exact ((((SBox.new w tW #[.slice none 0 0,.slice none 0 0,.map none,.map none,.map none]).alloc _).alloc _).alloc _).alloc _
 have v51:VMap w5 (b0+1) 0 (fun _=>none):=by
  rw [← hw5]
  have h1:=VMap.made (w.alloc (.cells #[.slice none 0 0,.slice none 0 0,.map none,.map none,.map none] 109))
  have h2:=((h1.kept (World.grownBy_alloc _ (.map #[] 0) none) (by simp)).kept (World.grownBy_alloc _ (.map #[] 0) none) (by simp)).kept (World.grownBy_alloc _ (.cells #[.slice al nl cl,.slice none 0 0,.map (some (w.heap.size+1)),.map (some (w.heap.size+1+1)),.map (some (w.heap.size+1+1+1))] 109) none) (by simp)
  simpa [hb0] using h2
 have v52:VMap w5 (b0+1+1) 0 (fun _=>none):=by
  rw [← hw5]
  have h1:=VMap.made ((w.alloc (.cells #[.slice none 0 0,.slice none 0 0,.map none,.map none,.map none] 109)).alloc (.map #[] 0))
  have h2:=(h1.kept (World.grownBy_alloc _ (.map #[] 0) none) (by simp)).kept (World.grownBy_alloc _ (.cells #[.slice al nl cl,.slice none 0 0,.map (some (w.heap.size+1)),.map (some (w.heap.size+1+1)),.map (some (w.heap.size+1+1+1))] 109) none) (by simp)
  simpa [hb0] using h2
 have v53:VMap w5 (b0+1+1+1) 0 (fun _=>none):=by
  rw [← hw5]
  have h1:=VMap.made (((w.alloc (.cells #[.slice none 0 0,.slice none 0 0,.map none,.map none,.map none] 109)).alloc (.map #[] 0)).alloc (.map #[] 0))
  have h2:=h1.kept (World.grownBy_alloc _ (.cells #[.slice al nl cl,.slice none 0 0,.map (some (w.heap.size+1)),.map (some (w.heap.size+1+1)),.map (some (w.heap.size+1+1+1))] 109) none) (by simp)
  simpa [hb0] using h2
 have C1:=CK w5 b5
 have HB0:=Lib.hid hb0
 have Hs5:=Lib.hid hs5
 have Hb5:=Lib.hid b5
 have Hx5:=Lib.hid x5
 have Hr5:=Lib.hid r5
 have H51:=Lib.hid v51
 have H52:=Lib.hid v52
 have H53:=Lib.hid v53
 rw [hb0] at hw5
 have f51:=x5.cell 1 _ rfl
 have g51:=x5.frozen 1
 clear v51 v52 v53 x5 r5 b5 CK hT hO hnl hs5 okn okl hSl
 go_enter Tryz.func75,Tryz.ntmps75
 go_wp2_with fail
 refine C1.mono ?_
 rintro e w6 ⟨v1,rfl,b6,own6⟩
 obtain ⟨a1,c1,rfl⟩:=own_shape11 own6
 have x6:SBox w6 (b0+1+1+1+1) tW (webC (.slice al nl cl) (.slice none 0 0) (b0+1) (b0+1+1) (b0+1+1+1)):=(b6.block _ (by have:=Hs5.out;omega)).trans Hx5.out
 have f61:=x6.cell 1 _ rfl
 have g61:=x6.frozen 1
 have ne6:=block_not_row x6 (by decide) own6
 have own7:=owns_keep7 (j:=1) own6 (.slice a1 nodes.length c1) ne6
 have C7:=psort11_any own7 (by omega)
 have x7:=x6.set 1 (.slice a1 nodes.length c1)
 have Hx7:Hid (SBox (w6.setCell ⟨(b0+1+1+1+1),1,none⟩ (.slice a1 nodes.length c1)) (b0+1+1+1+1) tW (webC (.slice al nl cl) (.slice a1 nodes.length c1) (b0+1) (b0+1+1) (b0+1+1+1))):=x7
 have Hb6:=Lib.hid b6
 have Ho6:=Lib.hid own6
 have HNE:=Lib.hid ne6
 clear x6 own6 own7 b6 x7 ne6
 go_wp2_with fail
 refine C7.mono ?_
 rintro e w8 ⟨rfl,g8,own8⟩
 have x8:SBox w8 (b0+1+1+1+1) tW (webC (.slice al nl cl) (.slice a1 nodes.length c1) (b0+1) (b0+1+1) (b0+1+1+1)):=(g8.block _ Hx7.out.lt HNE.out).trans Hx7.out
 have f81:=x8.cell 1 _ rfl
 have HNs:Hid (NumsOf nodes (Lib.compact (nodes.mergeSort fun x y=>decide (x≤y)))):=nums_of nodes
 have HMl:Hid ((nodes.mergeSort fun x y=>decide (x≤y)).length=nodes.length):=List.length_mergeSort _
 obtain ⟨M,hM⟩:∃ M,(nodes.mergeSort fun x y=>decide (x≤y))=M:=⟨_,rfl⟩
 rw [hM] at own8 HNs HMl
 have C9:=pcomp11_any (L:=M) (by rw [HMl.out];exact own8) (by rw [HMl.out];omega)
 have Hg8:=Lib.hid g8
 have Ho8:=Lib.hid own8
 have Hx8:=Lib.hid x8
 clear hM own8 g8 x8
 go_wp2_with fail
 refine C9.mono ?_
 rintro e w9 ⟨v2,rfl,g9,hob,own9⟩
 obtain ⟨N,hN⟩:∃ N,Lib.compact M=N:=⟨_,rfl⟩
 rw [hN] at own9 HNs
 clear hN
 obtain ⟨a2,c2,rfl⟩:=own_shape11 own9
 have x9:SBox w9 (b0+1+1+1+1) tW (webC (.slice al nl cl) (.slice a1 nodes.length c1) (b0+1) (b0+1+1) (b0+1+1+1)):=(g9.block _ Hx8.out.lt HNE.out).trans Hx8.out
 have f91:=x9.cell 1 _ rfl
 have g91:=x9.frozen 1
 have ne9:=block_not_row x9 (by decide) own9
 obtain ⟨nN,hnN⟩:∃ nN,N.length=nN:=⟨_,rfl⟩
 have HNN:=Lib.hid hnN
 rw [hnN] at own9 ne9
 rw [hnN]
 have HNnum:=HNs
 have hNle:nN≤17592186043904:=by have:=HNs.out.2.2;omega
 have Hx10:Hid (SBox (w9.setCell ⟨(b0+1+1+1+1),1,none⟩ (.slice a2 nN c2)) (b0+1+1+1+1) tW (webC (.slice al nl cl) (.slice a2 nN c2) (b0+1) (b0+1+1) (b0+1+1+1))):=x9.set 1 (.slice a2 nN c2)
 have Ho10:Hid ((w9.setCell ⟨(b0+1+1+1+1),1,none⟩ (.slice a2 nN c2)).ownsRow w5.heap.size 3 1 (.slice a2 nN c2) nN (iV N)):=owns_keep7 (j:=1) own9 (.slice a2 nN c2) ne9
 have Hk10:Hid (∀ m,m < w5.heap.size→m≠(b0+1+1+1+1)→(w9.setCell ⟨(b0+1+1+1+1),1,none⟩ (.slice a2 nN c2)).heap[m]?=w5.heap[m]?):=fun m hm hne=>by
  rw [Below.heap_setCell _ _ _ m hne]
  have off8:some m≠(Value.slice a1 nodes.length c1).ownBlock:=fun e=>by have:=(Ho6.out.lt m e.symm).1;omega
  have s6:=Hb6.out.size
  have s8:(w6.setCell ⟨(b0+1+1+1+1),1,none⟩ (.slice a1 nodes.length c1)).heap.size=w6.heap.size:=by simp
  have s9:=Hg8.out.size
  rw [g9.block m (by omega) off8,Hg8.out.block m (by omega) off8,Below.heap_setCell _ _ _ m hne,Hb6.out.block m hm]
 have Hs10:Hid (w5.heap.size≤(w9.setCell ⟨(b0+1+1+1+1),1,none⟩ (.slice a2 nN c2)).heap.size):=by
  show _≤_
  have s6:=Hb6.out.size
  have s8:(w6.setCell ⟨(b0+1+1+1+1),1,none⟩ (.slice a1 nodes.length c1)).heap.size=w6.heap.size:=by simp
  have s9:=Hg8.out.size
  have s10:=g9.size
  have s11:(w9.setCell ⟨(b0+1+1+1+1),1,none⟩ (.slice a2 nN c2)).heap.size=w9.heap.size:=by simp
  omega
 have Ht10:Hid ((w9.setCell ⟨(b0+1+1+1+1),1,none⟩ (.slice a2 nN c2)).os=w.os∧(w9.setCell ⟨(b0+1+1+1+1),1,none⟩ (.slice a2 nN c2)).tape=w.tape∧(w9.setCell ⟨(b0+1+1+1+1),1,none⟩ (.slice a2 nN c2)).output=w.output) :=
  ⟨g9.os.trans (Hg8.out.os.trans (Hb6.out.os.trans Hb5.out.os)),g9.tape.trans (Hg8.out.tape.trans (Hb6.out.tape.trans Hb5.out.tape)),g9.output.trans (Hg8.out.output.trans (Hb6.out.output.trans Hb5.out.output))⟩
 clear own9 x9 ne9 g9 hnN hob
 go_wp2_with fail
 generalize hw10:w9.setCell ⟨(b0+1+1+1+1),1,none⟩ (.slice a2 nN c2)=w10 at Hx10 Ho10 Hk10 Hs10 Ht10 ⊢
 clear hw10
 have h51:VMap w10 (b0+1) 0 (fun _=>none):=H51.out.same (Hk10.out _ (by have:=Hs5.out;omega) (by omega))
 have H102:Hid (VMap w10 (b0+1+1) 0 (fun _=>none)):=H52.out.same (Hk10.out _ (by have:=Hs5.out;omega) (by omega))
 have H103:Hid (VMap w10 (b0+1+1+1) 0 (fun _=>none)):=H53.out.same (Hk10.out _ (by have:=Hs5.out;omega) (by omega))
 have Hr10:Hid (SBox w10 b0 tW #[.slice none 0 0,.slice none 0 0,.map none,.map none,.map none]):=(Hk10.out _ (by have:=Hs5.out;omega) (by omega)).trans Hr5.out
 have Hb10:Hid (Below w.heap.size w w10):=by
  refine ⟨Ht10.out.1,Ht10.out.2.1,Ht10.out.2.2,?_,fun m hm=>?_⟩
  ·have:=Hs5.out;have:=Hs10.out;have:=HB0.out;omega
  ·have:=Hs5.out;have:=HB0.out
   rw [Hk10.out m (by omega) (by omega)]
   exact Hb5.out.block m hm
 have HZ0:Hid (CMap w10 (b0+1) 0 (zK N 0)):=by
  show VMap _ _ _ _
  have e:(fun x=>(zK N 0 x).map cntV)=fun _=>none:=by funext x;simp [zK]
  rw [e]
  exact h51
 have H510:=Lib.hid h51
 clear h51
 go_loopw [28] (fun i wr=>∃ k:Nat,k≤nN∧i=.int .i64 (k:Int)∧Hid (CMap wr (b0+1) k (zK N k))∧Hid (w10.grownBy wr (some (b0+1)))) (fun i _=>nN - (intOf i).toNat)
 case atStart=>exact ⟨0,Nat.zero_le _,rfl,HZ0,World.grownBy.refl _ _⟩
 case round =>
  obtain ⟨k,hk,rfl,HZ,HG⟩:=hrel
  have hxr:SBox wr (b0+1+1+1+1) tW (webC (.slice al nl cl) (.slice a2 nN c2) (b0+1) (b0+1+1) (b0+1+1+1)):=(HG.out.block _ Hx10.out.lt (fun e=>by have e2:=Option.some.inj e;omega)).trans Hx10.out
  by_cases hlt:k < nN
  ·have j0:(k:Int) < (nN:Int):=by omega
   have hkN:k < N.length:=by have:=HNN.out;omega
   have howr:wr.ownsRow w5.heap.size 3 1 (.slice a2 nN c2) nN (iV N):=Ho10.out.kept HG.out (own_off Ho10.out (by have:=Hs5.out;omega))
   obtain ⟨g,ea,cellN⟩:=own_at11 howr k hlt
   subst ea
   have eN:N.getD k 0=N[k]:=by simp [hkN]
   have hIN:I64 N[k]:=HOn.out _ ((HNs.out.2.1 _).1 (List.getElem_mem hkN))
   have HZn:Hid (zK N (k+1)=updC (zK N k) N[k] (0,0)):=zK_next N k hkN
   rw [eN] at cellN
   obtain ⟨y,hy⟩:∃ y,N[k]=y:=⟨_,rfl⟩
   rw [hy] at cellN hIN HZn
   have x2:=hxr.cell 2 _ rfl
   have hZ:=HZ.out
   unfold CMap at hZ
   clear howr eN hy hxr
   go_wp2_with (at_mapUpdate;refine wpl_store _ rfl _ _ _ tML rfl tC Tryz.underlying106 (b0+1) k _ rfl hZ (by omega) y hIN rfl (.agg #[.int .i64 0,.int .i64 0]) rfl ?_;intro w1 hM1 hg1)
   have HZ1:Hid (CMap w1 (b0+1) (k+1) (zK N (k+1))):=by
    show VMap _ _ _ _
    rw [HZn.out,cmap_upd]
    exact hM1
   have HG1:Hid (w10.grownBy w1 (some (b0+1))):=HG.out.trans hg1
   clear hM1 hg1 hZ
   go_wp2_with fail
   refine ⟨⟨k+1,by omega,by first | go_num | simp,HZ1,HG1⟩,by simp [intOf];omega⟩
  ·obtain rfl:nN=k:=by omega
   have jq:¬ (nN:Int) < (nN:Int):=by omega
   obtain ⟨wB,hwB⟩:∃ wB,wB=wr:=⟨_,rfl⟩
   have HC0:Hid (CMap wB (b0+1) 17592186044416 (cntK l (inN N) 0)):=by
    show CMap _ _ _ _
    rw [← zK_all N l,HNN.out,hwB]
    exact VMap.mono HZ.out (by omega)
   have HT0:Hid (TwoF wB wB.heap.size (b0+1+1) (b0+1+1+1) 0 (fun _=>none) (fun _=>none) (frK l (inN N) 0) (toK l (inN N) 0)):=by
    show TwoF _ _ _ _ _ _ _ _ _
    rw [hwB]
    exact TwoF.start wr _ _ _ (H102.out.kept HG.out (fun e=>by have e2:=Option.some.inj e;omega)) (H103.out.kept HG.out (fun e=>by have e2:=Option.some.inj e;omega))
   have Hx0:Hid (SBox wB (b0+1+1+1+1) tW (webC (.slice al nl cl) (.slice a2 nN c2) (b0+1) (b0+1+1) (b0+1+1+1))):=by rw [hwB];exact hxr
   have Hr0:Hid (SBox wB b0 tW #[.slice none 0 0,.slice none 0 0,.map none,.map none,.map none]):=by
    rw [hwB]
    exact (HG.out.block _ Hr10.out.lt (fun e=>by have e2:=Option.some.inj e;omega)).trans Hr10.out
   have Ho0:Hid (wB.ownsRow w5.heap.size 3 1 (.slice a2 nN c2) nN (iV N)):=by
    rw [hwB]
    exact Ho10.out.kept HG.out (own_off Ho10.out (by have:=Hs5.out;omega))
   have Hb0:Hid (Below w.heap.size w wB):=by
    rw [hwB]
    exact Hb10.out.grown HG.out (by have:=Hb10.out.size;omega) (fun j hj=>by cases hj;have:=HB0.out;omega)
   have Hs0:Hid (w5.heap.size≤wB.heap.size):=by rw [hwB];exact Nat.le_trans Hs10.out HG.out.size
   subst hwB
   clear hxr HZ HG
   go_wp2_with fail
   go_loopw [39] (fun i wr=>∃ (k:Nat) (f2 f3:Int→Option Value),k≤nl∧i=.int .i64 (k:Int)∧Hid (WvS w wr b0 w5.heap.size wB.heap.size (webC (.slice al nl cl) (.slice a2 nN c2) (b0+1) (b0+1+1) (b0+1+1+1)) #[.slice none 0 0,.slice none 0 0,.map none,.map none,.map none] (.slice a2 nN c2) nN N (cntK l (inN N) k) (2*k) f2 f3 (frK l (inN N) k) (toK l (inN N) k))) (fun i _=>nl - (intOf i).toNat)
   case atStart=>exact ⟨0,_,_,Nat.zero_le _,rfl,⟨HC0.out,HT0.out,Hx0.out,Hr0.out,Ho0.out,fun g hg=>(Ho0.out.lt g hg).2,Hb0.out,Nat.le_refl _,by have:=Hs5.out;omega,Hs0.out,HB0.out⟩⟩
   case round =>
    obtain ⟨k,f2,f3,hk,rfl,HS⟩:=hrel
    by_cases hlt:k < nl
    ·have j0:(k:Int) < (nl:Int):=by omega
     have hkl:k < l.length:=by have:=HNl.out;omega
     obtain ⟨bL,oL,rfl,u,hE,HQ⟩:=HL.out k hkl
     obtain ⟨c0,c1,c2'⟩:=HQ wr HS.out.bl
     have es:=stA_at l k hkl
     rw [← es] at c0 c1
     obtain ⟨ua,uc,rfl,_⟩:=hE.some_at
     obtain ⟨hIx,hIy⟩:=Hok.out k hlt
     obtain ⟨un,hun⟩:∃ un,l[k].2.2.length=un:=⟨_,rfl⟩
     rw [hun] at c2'
     have hno:=fun hn=>And.intro (cntK_no l (inN N) k hkl hn) (And.intro (frK_no l (inN N) k hn) (toK_no l (inN N) k hn))
     have hcy:=cntK_yes l (inN N) k hkl
     have hfy:=updG_fr l (inN N) k
     have hty:=updG_to l (inN N) k
     have GLf:=frK_len l (inN N) k (stA l k).1
     have GLt:=toK_len l (inN N) k (stA l k).2.1
     obtain ⟨x,hx⟩:∃ x,(stA l k).1=x:=⟨_,rfl⟩
     obtain ⟨y,hy⟩:∃ y,(stA l k).2.1=y:=⟨_,rfl⟩
     rw [hx] at c0 hIx hno hcy hfy hty GLf
     rw [hy] at c1 hIy hno hcy hfy hty GLt
     have Hno:=Lib.hid hno
     have Hcy:=Lib.hid hcy
     have Hfy:=Lib.hid hfy
     have Hty:=Lib.hid hty
     have HGf:=Lib.hid GLf
     have HGt:=Lib.hid GLt
     obtain ⟨bs,hbs⟩:∃ bs,wr.heap.size=bs:=⟨_,rfl⟩
     have SSn:=SBox.new wr tSt #[.int .i64 x,.int .i64 y,.slice ua un uc]
     have hSn:=HS.out.bel ((Below.refl _ wr).alloc (Nat.le_refl _) (.cells #[.int .i64 x,.int .i64 y,.slice ua un uc] tSt))
     rw [hbs] at SSn
     have HSn:=Lib.hid hSn
     have HSS:=Lib.hid SSn
     have n0:=hSn.bx.cell 0 _ rfl
     have n1:=hSn.bx.cell 1 _ rfl
     have n2:=hSn.bx.cell 2 _ rfl
     have n3:=hSn.bx.cell 3 _ rfl
     have n4:=hSn.bx.cell 4 _ rfl
     have CA:=fun (bo:Bool) (hbo:(cntK l (inN N) k x).isSome=bo)=>phas11_any (.slice (some ⟨bL,oL,none⟩) nl cl) (.slice a2 nN c2) (b0+1) (b0+1+1) (b0+1+1+1) 17592186044416 _ x _ hIx hSn.cm bo hbo
     have hisx:(cntK l (inN N) k x).isSome=inN N x:=by unfold cntK;cases inN N x<;>rfl
     have hisy:(cntK l (inN N) k y).isSome=inN N y:=by unfold cntK;cases inN N y<;>rfl
     have hbsz:wB.heap.size≤bs:=by rw [← hbs];exact HS.out.sz
     clear hno hcy hfy hty GLf GLt hx hy es hun HQ hE SSn hSn
     cases hSx:inN N x with
     | false =>
       have CA1:=CA false (by rw [hisx,hSx])
       obtain ⟨e1,e2,e3⟩:=Hno.out (by rw [hSx];rfl)
       have HE1:=Lib.hid e1;have HE2:=Lib.hid e2;have HE3:=Lib.hid e3
       clear CA hisx hisy e1 e2 e3 hSx
       go_wp2_with fail
       refine CA1.mono ?_
       rintro e w1 ⟨rfl,b1⟩
       have HS1:Hid (WvS w w1 b0 w5.heap.size wB.heap.size (webC (.slice (some ⟨bL,oL,none⟩) nl cl) (.slice a2 nN c2) (b0+1) (b0+1+1) (b0+1+1+1)) #[.slice none 0 0,.slice none 0 0,.map none,.map none,.map none] (.slice a2 nN c2) nN N (cntK l (inN N) (k+1)) (2*(k+1)) f2 f3 (frK l (inN N) (k+1)) (toK l (inN N) (k+1))):=by
        show WvS _ _ _ _ _ _ _ _ _ _ _ _ _ _ _ _
        rw [HE1.out,HE2.out,HE3.out]
        exact (HSn.out.bel b1).mono (by omega)
       go_wp2_with fail
       refine ⟨⟨k+1,f2,f3,by omega,by first | go_num | simp,HS1⟩,by simp [intOf];omega⟩
     | true =>
       have CA1:=CA true (by rw [hisx,hSx])
       clear CA hisx
       go_wp2_with fail
       refine CA1.mono ?_
       rintro e w1 ⟨rfl,b1⟩
       have hS1:=HSn.out.bel b1
       have hSS1:=HSS.out.below b1
       have HS1:=Lib.hid hS1
       have HSS1:=Lib.hid hSS1
       have o0:=hS1.bx.cell 0 _ rfl
       have o1:=hS1.bx.cell 1 _ rfl
       have o2:=hS1.bx.cell 2 _ rfl
       have o3:=hS1.bx.cell 3 _ rfl
       have o4:=hS1.bx.cell 4 _ rfl
       have o5:=hSS1.cell 1 _ rfl
       have CB:=fun (bo:Bool) (hbo:(cntK l (inN N) k y).isSome=bo)=>phas11_any (.slice (some ⟨bL,oL,none⟩) nl cl) (.slice a2 nN c2) (b0+1) (b0+1+1) (b0+1+1+1) 17592186044416 _ y w1 hIy hS1.cm bo hbo
       clear hS1 hSS1 n0 n1 n2 n3 n4
       cases hSy:inN N y with
       | false =>
         have CB1:=CB false (by rw [hisy,hSy])
         obtain ⟨e1,e2,e3⟩:=Hno.out (by rw [hSy,Bool.and_false])
         have HE1:=Lib.hid e1;have HE2:=Lib.hid e2;have HE3:=Lib.hid e3
         clear CB hisy e1 e2 e3 hSx hSy
         go_wp2_with fail
         refine CB1.mono ?_
         rintro e w2 ⟨rfl,b2⟩
         have HS2:Hid (WvS w w2 b0 w5.heap.size wB.heap.size (webC (.slice (some ⟨bL,oL,none⟩) nl cl) (.slice a2 nN c2) (b0+1) (b0+1+1) (b0+1+1+1)) #[.slice none 0 0,.slice none 0 0,.map none,.map none,.map none] (.slice a2 nN c2) nN N (cntK l (inN N) (k+1)) (2*(k+1)) f2 f3 (frK l (inN N) (k+1)) (toK l (inN N) (k+1))):=by
          show WvS _ _ _ _ _ _ _ _ _ _ _ _ _ _ _ _
          rw [HE1.out,HE2.out,HE3.out]
          exact (HS1.out.bel b2).mono (by omega)
         go_wp2_with fail
         refine ⟨⟨k+1,f2,f3,by omega,by first | go_num | simp,HS2⟩,by simp [intOf];omega⟩
       | true =>
         have CB1:=CB true (by rw [hisy,hSy])
         obtain ⟨p,q,e1,e2,e3,l1,l2,l3,l4,l5,l6,l7,l8⟩:=Hcy.out hSx hSy
         have HE1:=Lib.hid e1;have HE2:=Lib.hid e2;have HE3:=Lib.hid e3
         have Hf:=Lib.hid (Hfy.out hSx hSy)
         have Ht:=Lib.hid (Hty.out hSx hSy)
         clear CB hisy e1 e2 e3 hSx hSy
         go_wp2_with fail
         refine CB1.mono ?_
         rintro e w2 ⟨rfl,b2⟩
         have hS2:=HS1.out.bel b2
         have hSS2:=HSS1.out.below b2
         have HS2:=Lib.hid hS2
         have HSS2:=Lib.hid hSS2
         have n0:=hS2.bx.cell 0 _ rfl
         have n1:=hS2.bx.cell 1 _ rfl
         have n2:=hS2.bx.cell 2 _ rfl
         have n3:=hS2.bx.cell 3 _ rfl
         have n4:=hS2.bx.cell 4 _ rfl
         have n5:=hSS2.cell 0 _ rfl
         have CM1:=pmore11_any (.slice (some ⟨bL,oL,none⟩) nl cl) (.slice a2 nN c2) (b0+1) (b0+1+1) (b0+1+1+1) 17592186044416 _ x w2 hIx hS2.cm p (0,1) (p.1,p.2+1) HE1.out (by omega) (by show p.1+0=p.1;omega) rfl (by exact ⟨by show -9223372036854775808≤p.1;omega,by show p.1≤9223372036854775807;omega⟩) (by exact ⟨by show -9223372036854775808≤p.2+1;omega,by show p.2+1≤9223372036854775807;omega⟩)
         clear hS2 hSS2 o0 o1 o2 o3 o4 o5
         go_wp2_with fail
         refine CM1.mono ?_
         rintro e w3 ⟨rfl,hm3,g3⟩
         have hS3:=HS2.out.turn hm3 g3
         have hSS3:SBox w3 bs tSt #[.int .i64 x,.int .i64 y,.slice ua un uc]:=(g3.block _ HSS2.out.lt (fun e=>by have e2:=Option.some.inj e;have:=Hs5.out;have:=Hs0.out;omega)).trans HSS2.out
         have HS3:=Lib.hid hS3
         have HSS3:=Lib.hid hSS3
         have o0:=hS3.bx.cell 0 _ rfl
         have o1:=hS3.bx.cell 1 _ rfl
         have o2:=hS3.bx.cell 2 _ rfl
         have o3:=hS3.bx.cell 3 _ rfl
         have o4:=hS3.bx.cell 4 _ rfl
         have o5:=hSS3.cell 1 _ rfl
         have CM2:=pmore11_any (.slice (some ⟨bL,oL,none⟩) nl cl) (.slice a2 nN c2) (b0+1) (b0+1+1) (b0+1+1+1) 17592186044416 _ y w3 hIy hS3.cm q (1,0) (q.1+1,q.2) HE2.out (by omega) rfl (by show q.2+0=q.2;omega) (by exact ⟨by show -9223372036854775808≤q.1+1;omega,by show q.1+1≤9223372036854775807;omega⟩) (by exact ⟨by show -9223372036854775808≤q.2;omega,by show q.2≤9223372036854775807;omega⟩)
         clear hS3 hSS3 hm3 g3 n0 n1 n2 n3 n4 n5
         go_wp2_with fail
         refine CM2.mono ?_
         rintro e w4 ⟨rfl,hm4,g4⟩
         rw [← HE3.out] at hm4
         have HS4:=Lib.hid (HS3.out.turn hm4 g4)
         have HSS4:Hid (SBox w4 bs tSt #[.int .i64 x,.int .i64 y,.slice ua un uc]):=(g4.block _ HSS3.out.lt (fun e=>by have e2:=Option.some.inj e;have:=Hs5.out;have:=Hs0.out;omega)).trans HSS3.out
         clear hm4 g4 o0 o1 o2 o3 o4 o5
         have Hs5o:=Hs5.out
         have Hs0o:=Hs0.out
         go_wp2_with fail
         refine wp_region_any (by kernel_rfl) ?_
         change wpAny _ _ _ _ _ _ _ (World.drew _)
         generalize hwd2:World.drew _=wd2
         have hSd2:=HS4.out.drew
         rw [hwd2] at hSd2
         have hss2:SBox wd2 bs tSt #[.int .i64 x,.int .i64 y,.slice ua un uc]:=by rw [← hwd2];exact HSS4.out
         have HSd2:=Lib.hid hSd2
         clear hwd2
         have hvq2:(f2 x).getD (.slice none 0 0)=(f2 x).getD nilS:=rfl
         obtain ⟨vq2,hvv2⟩:∃ vq,(f2 x).getD nilS=vq:=⟨_,rfl⟩
         have hrow2:=hSd2.tw.o2 x
         unfold OwnP at hrow2
         rw [hvv2] at hvq2 hrow2
         have p02:=hSd2.bx.cell 3 _ rfl
         have p12:=hss2.cell 0 _ rfl
         have p22:=hSd2.tw.v2
         have szd2:=hSd2.sz
         have bsl2:=hss2.lt
         refine any_of_C (C:=fun V=>V.cell? ⟨(b0+1+1+1+1),3,none⟩=some (.map (some (b0+1+1)))∧V.cell? ⟨bs,0,none⟩=some (.int .i64 x)∧VMap V (b0+1+1) (2*k) f2) 12 _ _ _ _ ?_
         refine takeC (i:=0) (v:=.pointer (some ⟨(b0+1+1+1+1),3,none⟩)) rfl (by kernel_rfl) (by kernel_rfl) (by kernel_rfl) (by kernel_rfl) (by kernel_rfl) (fun _ _ _ h=>h) (Or.inl ⟨by kernel_rfl,fun V hV=>by obtain ⟨r0,r1,r2⟩:=hV;go_simp⟩) ?_
         refine takeC (i:=1) (v:=.map (some (b0+1+1))) rfl (by kernel_rfl) (by kernel_rfl) (by kernel_rfl) (by kernel_rfl) (by kernel_rfl) (fun _ _ _ h=>h) (Or.inl ⟨by kernel_rfl,fun V hV=>by obtain ⟨r0,r1,r2⟩:=hV;go_simp⟩) ?_
         refine takeC (i:=2) (v:=.pointer (some ⟨bs,0,none⟩)) rfl (by kernel_rfl) (by kernel_rfl) (by kernel_rfl) (by kernel_rfl) (by kernel_rfl) (fun _ _ _ h=>h) (Or.inl ⟨by kernel_rfl,fun V hV=>by obtain ⟨r0,r1,r2⟩:=hV;go_simp⟩) ?_
         refine takeC (i:=3) (v:=.int .i64 x) rfl (by kernel_rfl) (by kernel_rfl) (by kernel_rfl) (by kernel_rfl) (by kernel_rfl) (fun _ _ _ h=>h) (Or.inl ⟨by kernel_rfl,fun V hV=>by obtain ⟨r0,r1,r2⟩:=hV;go_simp⟩) ?_
         refine takeC (i:=4) (v:=.pointer (some ⟨(b0+1+1+1+1),3,none⟩)) rfl (by kernel_rfl) (by kernel_rfl) (by kernel_rfl) (by kernel_rfl) (by kernel_rfl) (fun _ _ _ h=>h) (Or.inl ⟨by kernel_rfl,fun V hV=>by obtain ⟨r0,r1,r2⟩:=hV;go_simp⟩) ?_
         refine takeC (i:=5) (v:=.map (some (b0+1+1))) rfl (by kernel_rfl) (by kernel_rfl) (by kernel_rfl) (by kernel_rfl) (by kernel_rfl) (fun _ _ _ h=>h) (Or.inl ⟨by kernel_rfl,fun V hV=>by obtain ⟨r0,r1,r2⟩:=hV;go_simp⟩) ?_
         refine takeC (i:=6) (v:=.pointer (some ⟨bs,0,none⟩)) rfl (by kernel_rfl) (by kernel_rfl) (by kernel_rfl) (by kernel_rfl) (by kernel_rfl) (fun _ _ _ h=>h) (Or.inl ⟨by kernel_rfl,fun V hV=>by obtain ⟨r0,r1,r2⟩:=hV;go_simp⟩) ?_
         refine takeC (i:=7) (v:=.int .i64 x) rfl (by kernel_rfl) (by kernel_rfl) (by kernel_rfl) (by kernel_rfl) (by kernel_rfl) (fun _ _ _ h=>h) (Or.inl ⟨by kernel_rfl,fun V hV=>by obtain ⟨r0,r1,r2⟩:=hV;go_simp⟩) ?_
         refine takeC (i:=8) (v:=vq2) rfl (by kernel_rfl) (by kernel_rfl) (by kernel_rfl) (by kernel_rfl) (by kernel_rfl) (fun _ _ _ h=>h) (Or.inl ⟨by kernel_rfl,fun V hV=>by obtain ⟨r0,r1,r2⟩:=hV;have hq:=vlook_run r2 Tryz.underlying107 (zeroS V) x hIx vq2 hvq2;go_simp⟩) ?_
         refine takeC (i:=9) (v:=.int .i64 (k:Int)) rfl (by kernel_rfl) (by kernel_rfl) (by kernel_rfl) (by kernel_rfl) (by kernel_rfl) (fun _ _ _ h=>h) (Or.inl ⟨by kernel_rfl,fun V hV=>by obtain ⟨r0,r1,r2⟩:=hV;go_simp⟩) ?_
         refine consC (i:=10) (by kernel_rfl) (by kernel_rfl) ⟨p02,p12,p22⟩ rfl (fun K hK=>?_)
         go_wp2_with fail
         refine consC (i:=11) (by kernel_rfl) (by kernel_rfl) ⟨cell_al11 _ p02,cell_al11 _ p12,p22.kept (World.grownBy_alloc _ _ none) (by simp)⟩ rfl (fun K hK=>?_)
         refine wpList_append_own_at _ rfl _ _ 23 rfl wB.heap.size 3 i0 (.int .i64 0) 1 8 Tryz.underlying23 hi hz0 hz1 hz2 rfl (by decide) vq2 _ _ rfl (hrow2.alloc _) ⟨wd2.heap.size,0,none⟩ 1 1 [.int .i64 (k:Int)] rfl rfl ?a12 ?a22 ?a32 ?a42 ?a52 ?_
         case a12=>intro j u hj;match j,hj with
          | 0,hj=>simp at hj;subst hj;simp [Addr.add]
         case a22=>intro u hu;simp at hu;subst hu;rfl
         case a32=>unfold maxLen;have:=HGf.out;omega
         case a42=>have:=HGf.out;omega
         case a52=>simp;omega
         intro r3 w32 hown3 hg3 _ hat3
         obtain ⟨ad3,c3,rfl⟩:=own_shape11 hown3
         have off2:∀ m,m < wB.heap.size→some m≠vq2.ownBlock:=fun m hm e=>by have:=(hrow2.lt m e.symm).1;omega
         have q02:w32.cell? ⟨(b0+1+1+1+1),3,none⟩=some (.map (some (b0+1+1))):=by
          have eb:=hg3.block (b0+1+1+1+1) (by simp;omega) (off2 _ (by omega))
          rw [World.cell?_of_block (a:=⟨(b0+1+1+1+1),3,none⟩) eb];exact cell_al11 _ p02
         have hbs32:SBox w32 bs tSt #[.int .i64 x,.int .i64 y,.slice ua un uc]:=(hg3.block _ (by simp;omega) (block_not_row hss2 (by decide) hrow2)).trans (hss2.alloc _)
         have q12:=hbs32.cell 0 _ rfl
         have q22:VMap w32 (b0+1+1) (2*k) f2:=(p22.kept (World.grownBy_alloc _ _ none) (by simp)).kept hg3 (off2 _ (by omega))
         go_wp2_with fail
         refine lastC (by kernel_rfl) (by kernel_rfl) ⟨q02,q12,q22⟩ (of_decide_eq_true (by kernel_rfl)) ?_
         refine any_seqI [12] [_] _ _ _ rfl (by kernel_rfl) ?_
         have hg3':=hg3
         rw [← hvv2] at hg3' hat3
         refine wpl_store _ rfl _ _ _ tMI rfl 23 Tryz.underlying107 (b0+1+1) (2*k) _ rfl q22 (by omega) x hIx rfl _ rfl ?_
         intro w42 hM4 hg4
         have HS42:=Lib.hid (HSd2.out.push2 x k _ hown3 hg3' hat3 hM4 hg4)
         have SS42:Hid (SBox w42 bs tSt #[.int .i64 x,.int .i64 y,.slice ua un uc]):=(hg4.block _ hbs32.lt (fun e=>by have e2:=Option.some.inj e;omega)).trans hbs32
         clear hM4 hg4 hown3 hg3 hg3' hat3 q02 q12 q22 p02 p12 p22 hrow2 hSd2 hss2 off2 hbs32 hvv2 hvq2 HSd2
         go_wp2_with fail
         refine wp_region_any (by kernel_rfl) ?_
         change wpAny _ _ _ _ _ _ _ (World.drew _)
         generalize hwd3:World.drew _=wd3
         have hSd3:=HS42.out.drew
         rw [hwd3] at hSd3
         have hss3:SBox wd3 bs tSt #[.int .i64 x,.int .i64 y,.slice ua un uc]:=by rw [← hwd3];exact SS42.out
         have HSd3:=Lib.hid hSd3
         clear hwd3
         have hvq3:(f3 y).getD (.slice none 0 0)=(f3 y).getD nilS:=rfl
         obtain ⟨vq3,hvv3⟩:∃ vq,(f3 y).getD nilS=vq:=⟨_,rfl⟩
         have hrow3:=hSd3.tw.o3 y
         unfold OwnP at hrow3
         rw [hvv3] at hvq3 hrow3
         have p03:=hSd3.bx.cell 4 _ rfl
         have p13:=hss3.cell 1 _ rfl
         have p23:=hSd3.tw.v3
         have szd3:=hSd3.sz
         have bsl3:=hss3.lt
         refine any_of_C (C:=fun V=>V.cell? ⟨(b0+1+1+1+1),4,none⟩=some (.map (some (b0+1+1+1)))∧V.cell? ⟨bs,1,none⟩=some (.int .i64 y)∧VMap V (b0+1+1+1) (2*k+1) f3) 12 _ _ _ _ ?_
         refine takeC (i:=0) (v:=.pointer (some ⟨(b0+1+1+1+1),4,none⟩)) rfl (by kernel_rfl) (by kernel_rfl) (by kernel_rfl) (by kernel_rfl) (by kernel_rfl) (fun _ _ _ h=>h) (Or.inl ⟨by kernel_rfl,fun V hV=>by obtain ⟨r0,r1,r2⟩:=hV;go_simp⟩) ?_
         refine takeC (i:=1) (v:=.map (some (b0+1+1+1))) rfl (by kernel_rfl) (by kernel_rfl) (by kernel_rfl) (by kernel_rfl) (by kernel_rfl) (fun _ _ _ h=>h) (Or.inl ⟨by kernel_rfl,fun V hV=>by obtain ⟨r0,r1,r2⟩:=hV;go_simp⟩) ?_
         refine takeC (i:=2) (v:=.pointer (some ⟨bs,1,none⟩)) rfl (by kernel_rfl) (by kernel_rfl) (by kernel_rfl) (by kernel_rfl) (by kernel_rfl) (fun _ _ _ h=>h) (Or.inl ⟨by kernel_rfl,fun V hV=>by obtain ⟨r0,r1,r2⟩:=hV;go_simp⟩) ?_
         refine takeC (i:=3) (v:=.int .i64 y) rfl (by kernel_rfl) (by kernel_rfl) (by kernel_rfl) (by kernel_rfl) (by kernel_rfl) (fun _ _ _ h=>h) (Or.inl ⟨by kernel_rfl,fun V hV=>by obtain ⟨r0,r1,r2⟩:=hV;go_simp⟩) ?_
         refine takeC (i:=4) (v:=.pointer (some ⟨(b0+1+1+1+1),4,none⟩)) rfl (by kernel_rfl) (by kernel_rfl) (by kernel_rfl) (by kernel_rfl) (by kernel_rfl) (fun _ _ _ h=>h) (Or.inl ⟨by kernel_rfl,fun V hV=>by obtain ⟨r0,r1,r2⟩:=hV;go_simp⟩) ?_
         refine takeC (i:=5) (v:=.map (some (b0+1+1+1))) rfl (by kernel_rfl) (by kernel_rfl) (by kernel_rfl) (by kernel_rfl) (by kernel_rfl) (fun _ _ _ h=>h) (Or.inl ⟨by kernel_rfl,fun V hV=>by obtain ⟨r0,r1,r2⟩:=hV;go_simp⟩) ?_
         refine takeC (i:=6) (v:=.pointer (some ⟨bs,1,none⟩)) rfl (by kernel_rfl) (by kernel_rfl) (by kernel_rfl) (by kernel_rfl) (by kernel_rfl) (fun _ _ _ h=>h) (Or.inl ⟨by kernel_rfl,fun V hV=>by obtain ⟨r0,r1,r2⟩:=hV;go_simp⟩) ?_
         refine takeC (i:=7) (v:=.int .i64 y) rfl (by kernel_rfl) (by kernel_rfl) (by kernel_rfl) (by kernel_rfl) (by kernel_rfl) (fun _ _ _ h=>h) (Or.inl ⟨by kernel_rfl,fun V hV=>by obtain ⟨r0,r1,r2⟩:=hV;go_simp⟩) ?_
         refine takeC (i:=8) (v:=vq3) rfl (by kernel_rfl) (by kernel_rfl) (by kernel_rfl) (by kernel_rfl) (by kernel_rfl) (fun _ _ _ h=>h) (Or.inl ⟨by kernel_rfl,fun V hV=>by obtain ⟨r0,r1,r2⟩:=hV;have hq:=vlook_run r2 Tryz.underlying107 (zeroS V) y hIy vq3 hvq3;go_simp⟩) ?_
         refine takeC (i:=9) (v:=.int .i64 (k:Int)) rfl (by kernel_rfl) (by kernel_rfl) (by kernel_rfl) (by kernel_rfl) (by kernel_rfl) (fun _ _ _ h=>h) (Or.inl ⟨by kernel_rfl,fun V hV=>by obtain ⟨r0,r1,r2⟩:=hV;go_simp⟩) ?_
         refine consC (i:=10) (by kernel_rfl) (by kernel_rfl) ⟨p03,p13,p23⟩ rfl (fun K hK=>?_)
         go_wp2_with fail
         refine consC (i:=11) (by kernel_rfl) (by kernel_rfl) ⟨cell_al11 _ p03,cell_al11 _ p13,p23.kept (World.grownBy_alloc _ _ none) (by simp)⟩ rfl (fun K hK=>?_)
         refine wpList_append_own_at _ rfl _ _ 23 rfl wB.heap.size 3 i0 (.int .i64 0) 1 8 Tryz.underlying23 hi hz0 hz1 hz2 rfl (by decide) vq3 _ _ rfl (hrow3.alloc _) ⟨wd3.heap.size,0,none⟩ 1 1 [.int .i64 (k:Int)] rfl rfl ?a13 ?a23 ?a33 ?a43 ?a53 ?_
         case a13=>intro j u hj;match j,hj with
          | 0,hj=>simp at hj;subst hj;simp [Addr.add]
         case a23=>intro u hu;simp at hu;subst hu;rfl
         case a33=>unfold maxLen;have:=HGt.out;omega
         case a43=>have:=HGt.out;omega
         case a53=>simp;omega
         intro r3 w33 hown3 hg3 _ hat3
         obtain ⟨ad3,c3,rfl⟩:=own_shape11 hown3
         have off3:∀ m,m < wB.heap.size→some m≠vq3.ownBlock:=fun m hm e=>by have:=(hrow3.lt m e.symm).1;omega
         have q03:w33.cell? ⟨(b0+1+1+1+1),4,none⟩=some (.map (some (b0+1+1+1))):=by
          have eb:=hg3.block (b0+1+1+1+1) (by simp;omega) (off3 _ (by omega))
          rw [World.cell?_of_block (a:=⟨(b0+1+1+1+1),4,none⟩) eb];exact cell_al11 _ p03
         have hbs33:SBox w33 bs tSt #[.int .i64 x,.int .i64 y,.slice ua un uc]:=(hg3.block _ (by simp;omega) (block_not_row hss3 (by decide) hrow3)).trans (hss3.alloc _)
         have q13:=hbs33.cell 1 _ rfl
         have q23:VMap w33 (b0+1+1+1) (2*k+1) f3:=(p23.kept (World.grownBy_alloc _ _ none) (by simp)).kept hg3 (off3 _ (by omega))
         go_wp2_with fail
         refine lastC (by kernel_rfl) (by kernel_rfl) ⟨q03,q13,q23⟩ (of_decide_eq_true (by kernel_rfl)) ?_
         refine any_seqI [12] [_] _ _ _ rfl (by kernel_rfl) ?_
         have hg3':=hg3
         rw [← hvv3] at hg3' hat3
         refine wpl_store _ rfl _ _ _ tMI rfl 23 Tryz.underlying107 (b0+1+1+1) (2*k+1) _ rfl q23 (by omega) y hIy rfl _ rfl ?_
         intro w43 hM4 hg4
         have HS43:=Lib.hid (HSd3.out.push3 y k _ hown3 hg3' hat3 hM4 hg4)
         have SS43:Hid (SBox w43 bs tSt #[.int .i64 x,.int .i64 y,.slice ua un uc]):=(hg4.block _ hbs33.lt (fun e=>by have e2:=Option.some.inj e;omega)).trans hbs33
         clear hM4 hg4 hown3 hg3 hg3' hat3 q03 q13 q23 p03 p13 p23 hrow3 hSd3 hss3 off3 hbs33 hvv3 hvq3 HSd3
         have HS9:=HS43.out
         rw [← Hf.out,← Ht.out,show 2*k+1+1=2*(k+1) by omega] at HS9
         have HSe:=Lib.hid HS9
         clear HS9
         go_wp2_with fail
         refine ⟨⟨k+1,_,_,by omega,by first | go_num | simp,HSe⟩,by simp [intOf];omega⟩
    ·obtain rfl:nl=k:=by omega
     have jq:¬ (nl:Int) < (nl:Int):=by omega
     have hS:=HS.out
     have y0:=hS.bx.cell 0 _ rfl
     have y1:=hS.bx.cell 1 _ rfl
     have y2:=hS.bx.cell 2 _ rfl
     have y3:=hS.bx.cell 3 _ rfl
     have y4:=hS.bx.cell 4 _ rfl
     have z0:=hS.rs.cell 0 _ rfl
     have z1:=hS.rs.cell 1 _ rfl
     have z2:=hS.rs.cell 2 _ rfl
     have z3:=hS.rs.cell 3 _ rfl
     have z4:=hS.rs.cell 4 _ rfl
     have k0:=hS.rs.frozen 0
     have k1:=hS.rs.frozen 1
     have k2:=hS.rs.frozen 2
     have k3:=hS.rs.frozen 3
     have k4:=hS.rs.frozen 4
     have hNl:=HNl.out
     obtain ⟨wE,hwE⟩:∃ wE,(((((wr.setCell ⟨b0,0,none⟩ (.slice al nl cl)).setCell ⟨b0,1,none⟩ (.slice a2 nN c2)).setCell ⟨b0,2,none⟩ (.map (some (b0+1)))).setCell ⟨b0,3,none⟩ (.map (some (b0+1+1)))).setCell ⟨b0,4,none⟩ (.map (some (b0+1+1+1))))=wE:=⟨_,rfl⟩
     have RW:Hid (SBox wE b0 tW (webC (.slice al nl cl) (.slice a2 nN c2) (b0+1) (b0+1+1) (b0+1+1+1))):=by rw [← hwE];exact ((((hS.rs.set 0 _).set 1 _).set 2 _).set 3 _).set 4 _
     have gE:wr.grownBy wE (some b0):=by
      rw [← hwE]
      exact ((((Lib.grownBy_setCell _ b0 0 _).trans (Lib.grownBy_setCell _ b0 1 _)).trans (Lib.grownBy_setCell _ b0 2 _)).trans (Lib.grownBy_setCell _ b0 3 _)).trans (Lib.grownBy_setCell _ b0 4 _)
     have h1:=hS.s1
     have h2:=hS.s2
     have h3:=hS.s3
     have HcE:Hid (CMap wE (b0+1) 17592186044416 (cntF l (inN N))):=by
      have:=hS.cm.kept gE (fun e=>by have e2:=Option.some.inj e;omega)
      rw [← hNl,cntK_all] at this
      exact this
     have htE:=hS.tw.turned gE (by omega) (by omega) (by omega)
     have hrE:wE.ownsRow w5.heap.size 3 1 (.slice a2 nN c2) nN (iV N):=hS.row.kept gE (own_off hS.row (by omega))
     have hbE:Below w.heap.size w wE:=hS.bl.grown gE (by have:=hS.bl.size;omega) (fun j hj=>by have e2:=Option.some.inj hj;omega)
     have HbE:=Lib.hid hbE
     have HWb:Hid (Web wE l N (.slice al nl cl) (.slice a2 nN c2) (b0+1) (b0+1+1) (b0+1+1+1)):=by
      have hNN:=HNN.out
      have hNu:=HNs.out
      refine ⟨?_,?_,by omega,HOl.out,?_,Shp.own hrE,by omega,fun x hx=>HOn.out x ((hNu.2.1 x).1 hx),hNu.1,isMap_of HcE.out,?_,?_,by omega,by omega⟩
      ·have:=HT.out.below hbE;rw [hNl] at this;exact this
      ·have:=HSl.out;rw [hNl] at this;exact this
      ·rw [← iV_rec] at hrE;exact IsRec.own intV_len (by omega) hrE (by omega)
      ·have:=htE.gmap (fun x=>by have:=frK_len l (inN N) nl x;omega)
       obtain ⟨f,q1,q2⟩:=this
       refine ⟨f,q1.mono (by omega),fun x=>?_⟩
       unfold frL;rw [hNl];exact q2 x
      ·have:=htE.symm.gmap (fun x=>by have:=toK_len l (inN N) nl x;omega)
       obtain ⟨f,q1,q2⟩:=this
       refine ⟨f,q1.mono (by omega),fun x=>?_⟩
       unfold toL;rw [hNl];exact q2 x
     clear hS gE htE hrE hbE hNl
     go_wp2_with fail
     exact bodyPost_ret (v:=webV (.slice al nl cl) (.slice a2 nN c2) (b0+1) (b0+1+1) (b0+1+1+1)) (results_row11 Tryz.results75 _ _ b0 tW _ (0,0) _ rfl RW.out Tryz.underlying109 rfl size_web) rfl ⟨N,_,_,_,_,rfl,HNs.out,HbE.out,HWb.out,HcE.out,by rw [HB0.out];omega⟩
end Go.Proofs.YtiihegldhnlleaaGreat
