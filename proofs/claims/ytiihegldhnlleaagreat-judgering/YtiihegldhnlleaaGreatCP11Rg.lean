/-
  What ring.Ring answers.
-/
import Derived.Test.YtiihegldhnlleaaGreatCL3a
namespace Go.Proofs.YtiihegldhnlleaaGreat
set_option maxRecDepth 100000
open Go.RowKit Go.Maps
set_option linter.unusedVariables false
attribute [local go_sem] ba_size
theorem own_mono11 {W:World} {B B' e k n:Nat} {v:Value} {xs:List Value} (h:W.ownsRow B e k v n xs) (hB:B'≤B):W.ownsRow B' e k v n xs:=by
 rcases h.2 with ⟨rfl,h0⟩ | ⟨g,cap,cur,rfl,h1,h2,h3⟩
 ·exact ⟨h.1,.inl ⟨rfl,h0⟩⟩
 ·exact ⟨h.1,.inr ⟨g,cap,cur,rfl,Nat.le_trans hB h1,h2,h3⟩⟩
structure RgW (Wc wr:World) (m1 bw:Nat) (cs:Array Value) (l:List Stp) (S:Int→Bool) (pv:Value) (ps:List Nat):Prop where
 bx:SBox wr bw tW cs
 cm:CMap wr m1 17592186044416 (cntF l S)
 gr:Wc.grownBy wr (some m1)
 row:wr.ownsRow (bw+1) 3 1 pv ps.length (plV ps)
theorem RgW.bel {Wc wr wr':World} {m1 bw:Nat} {cs:Array Value} {l:List Stp} {S:Int→Bool} {pv:Value} {ps:List Nat} (h:RgW Wc wr m1 bw cs l S pv ps) (hb:Below wr.heap.size wr wr'):RgW Wc wr' m1 bw cs l S pv ps :=
 ⟨h.bx.below hb,h.cm.bel hb h.cm.lt,h.gr.trans (grown_below8 _ hb),h.row.kept (grown_below8 none hb) (by cases pv.ownBlock<;>simp)⟩
def pathOf (l:List Stp):Option (Int × Nat)→List Stp
 | none=>[]
 | some b=>ringPath l b.1 b.2 b.1
structure RgL (l:List Stp) (N:List Int) (k:Nat) (S T:Int→Bool) (best:Option (Int × Nat)) (ps:List Nat):Prop where
 all:AllIn l T S
 bst:BestOk l T best
 sub:∀ x,S x=true→x∈N
 done:∀ x∈N.take k,S x=false
 pl:ps.length=mostOf best
 pb:∀ p∈ps,p < l.length
 pp:ps.map (stA l)=pathOf l best
 few:ps.length≤N.length
theorem RgL.skip {l:List Stp} {N:List Int} {k:Nat} {S T:Int→Bool} {best:Option (Int × Nat)} {ps:List Nat} (h:RgL l N k S T best ps) (hk:k < N.length) (hS:S N[k]=false):RgL l N (k+1) S T best ps:=by
 refine ⟨h.all,h.bst,h.sub,fun x hx=>?_,h.pl,h.pb,h.pp,h.few⟩
 rw [List.take_succ_eq_append_getElem hk,List.mem_append,List.mem_singleton] at hx
 rcases hx with hx | rfl
 ·exact h.done x hx
 ·exact hS
theorem RgL.next {l:List Stp} {N:List Int} {k:Nat} {S S' T:Int→Bool} {best best':Option (Int × Nat)} {ps ps':List Nat} (h:RgL l N k S T best ps) (hk:k < N.length) {y:Int} (hy:N[k]=y) (hL:Less l (dropB S y) S') (hB:BestOk l (addB T y) best') (h1:ps'.length=mostOf best') (h2:∀ p∈ps',p < l.length) (h3:ps'.map (stA l)=pathOf l best') (h4:ps'.length≤N.length):RgL l N (k+1) S' (addB T y) best' ps':=by
 have hd:∀ x,S' x=true→S x=true∧x≠y:=fun x hx=>by
  have:=hL.1 x hx
  unfold dropB at this
  simpa using this
 refine ⟨hL.2 _ (h.all.take y),hB,fun x hx=>h.sub x (hd x hx).1,fun x hx=>?_,h1,h2,h3,h4⟩
 rw [List.take_succ_eq_append_getElem hk,List.mem_append,List.mem_singleton] at hx
 cases hs:S' x with
 | false=>rfl
 | true =>
   exfalso
   rcases hx with hx | hx
   ·have:=(hd x hs).1
    rw [h.done x hx] at this
    cases this
   ·exact (hd x hs).2 (hx.trans hy)
def RgI (bw bv:Nat) (cs:Array Value) (pv:Value) (ps:List Nat) (V:World):Prop:=SBox V bw tW cs∧V.ownsRow (bw+1) 3 1 pv ps.length (plV ps)∧(∀ g,pv.ownBlock=some g→vblk V bv≠some g)∧pv.ownBlock≠some bv∧bv < V.heap.size∧bw < bv
theorem RgI.turn {bw bv m1:Nat} {cs:Array Value} {pv:Value} {ps:List Nat} {V V':World} (h:RgI bw bv cs pv ps V) (hg:V.grownBy V' (some m1)) (hm:m1 < bw):RgI bw bv cs pv ps V':=by
 obtain ⟨h1,h2,h3,h4,h5,h6⟩:=h
 refine ⟨(hg.block bw h1.lt (fun e=>by have:=Option.some.inj e;omega)).trans h1,h2.kept hg (own_off h2 (by omega)),?_,h4,Nat.lt_of_lt_of_le h5 hg.size,h6⟩
 rw [vblk_same (hg.block bv h5 (fun e=>by have:=Option.some.inj e;omega))]
 exact h3
theorem RgI.fr {bw bv:Nat} {cs:Array Value} {pv:Value} {ps:List Nat} {V V':World} {a:List Int} (h:RgI bw bv cs pv ps V) (hv:VrS V (bw+1) bv a) (fr:Fr (bw+1) bv V V'):RgI bw bv cs pv ps V':=by
 obtain ⟨h1,h2,h3,h4,h5,h6⟩:=h
 obtain ⟨k1,k2⟩:=fr.other h2 h4 h3
 exact ⟨fr.box h1 (by omega) (hv.vb h1 (by decide)),k1,k2,h4,Nat.lt_of_lt_of_le h5 fr.bel.size,h6⟩
theorem RgW.start {Wc W:World} {m1 bw:Nat} {cs:Array Value} {l:List Stp} {S:Int→Bool} {pv:Value} {ps:List Nat} (h:RgW Wc W m1 bw cs l S pv ps):RgI bw W.heap.size cs pv ps (W.alloc (.cells #[.slice none 0 0] tI))∧VrS (W.alloc (.cells #[.slice none 0 0] tI)) (bw+1) W.heap.size []:=by
 have hb:=Boxed.new W tI (.slice none 0 0)
 have h1:=h.bx.lt
 refine ⟨⟨h.bx.alloc _,h.row.alloc _,fun g hg=>?_,fun e=>?_,by simp,h1⟩,by omega,_,hb,World.ownsRow_nil _ _ _ _⟩
 ·rw [vblk_of hb];simp [Value.ownBlock]
 ·have:=(h.row.lt _ e).2;omega
theorem out_len (l:List Stp) (S:Int→Bool) (x:Int):(outX l S x).length+(inX l S x).length≤2*l.length:=by
 unfold outX inX
 rw [List.length_map,List.length_map]
 have h1:=frK_len l S l.length x
 have h2:=toK_len l S l.length x
 unfold frL toL
 omega
theorem cntF_some (l:List Stp) (S:Int→Bool) (x:Int):(cntF l S x).isSome=S x:=by
 unfold cntF
 cases h:S x<;>simp
theorem okn_of (l:List Stp) (okl:∀ x∈l,goodSt x):∀ x∈nodesL l,okS x:=fun x hx=>by
 unfold nodesL at hx
 obtain ⟨s,hs,h⟩:=List.mem_flatMap.1 hx
 simp only [List.mem_cons,List.not_mem_nil,or_false] at h
 rcases h with rfl | rfl
 ·exact (okl s hs).1
 ·exact (okl s hs).2.1
theorem RgL.fin {l:List Stp} {N:List Int} {S T:Int→Bool} {best:Option (Int × Nat)} {ps:List Nat} (h:RgL l N N.length S T best ps) (hN:∀ s∈l,s.1∈N):(ringL l).getD []=ps.map (stA l)∧(ringL l).isSome=decide (0 < ps.length)∧ps.length≤l.length:=by
 have hd:=h.done
 rw [List.take_length] at hd
 have he:=ring_end N hN hd h.all h.bst
 have hp:=h.pp
 have hl:=h.pl
 cases best with
 | none =>
   simp only at he
   rw [he]
   refine ⟨?_,?_,?_⟩
   ·rw [hp];rfl
   ·rw [hl];rfl
   ·rw [hl];exact Nat.zero_le _
 | some b =>
   simp only at he
   have h1:1≤b.2:=h.bst.2.1
   have hl':ps.length=b.2:=hl
   refine ⟨?_,?_,?_⟩
   ·rw [he,hp];rfl
   ·rw [he,hl'];simp;omega
   ·rcases ringL_few l _ he with h2 | h2
    ·have:=congrArg List.length hp
     rw [List.length_map] at this
     rw [this]
     exact h2
    ·exfalso
     have hw:Walk l b.2 b.1 b.1:=h.bst.2.2.1
     rw [show b.2=b.2 - 1+1 by omega] at hw
     have:=hw.start
     rw [h2] at this
     obtain ⟨s,hs,_⟩:=this
     cases hs
def StQ (W:World) (L':List SVt) (L:List Stp):Prop:=L'.length=L.length∧∀ (i:Nat) x s,L'[i]?=some x→L[i]?=some s→x.1=s.1∧x.2.1=s.2.1∧(∃ B,W.ownsRow B 54 5 x.2.2 s.2.2.length (recV edV s.2.2))∧s.2.2.length≤3518437208780
theorem StQ.nil (W:World):StQ W [] []:=⟨rfl,fun i x s h=>by simp at h⟩
theorem StQ.of {W:World} {L':List SVt} {L:List Stp} (h:StQ W L' L):StOf W L' L :=
 ⟨h.1,fun i x s hx hs=>by obtain ⟨a,b,⟨B,c⟩,d⟩:=h.2 i x s hx hs;exact ⟨a,b,IsRec.own edV_len (by omega) c (by omega)⟩⟩
theorem StQ.below {W W':World} {L':List SVt} {L:List Stp} (h:StQ W L' L) (hb:Below W.heap.size W W'):StQ W' L' L :=
 ⟨h.1,fun i x s hx hs=>by obtain ⟨a,b,⟨B,c⟩,d⟩:=h.2 i x s hx hs;exact ⟨a,b,⟨B,owns_below c hb⟩,d⟩⟩
theorem owns_kept11 {W W':World} {B e k n B' e' k' n':Nat} {v r:Value} {xs ys:List Value} (h:W.ownsRow B e k v n xs) (hr:W.ownsRow B' e' k' r n' ys) (hte:e≠e') (hg:W.grownBy W' r.ownBlock):W'.ownsRow B e k v n xs:=by
 refine h.kept hg ?_
 rcases h.2 with ⟨rfl,_⟩ | ⟨g,cap,cur,rfl,_,hgb,_⟩
 ·exact .inl rfl
 ·exact .inr (fun e=>block_not_row hgb hte hr e)
theorem StQ.push {W W':World} {L':List SVt} {L:List Stp} {B B' n:Nat} {r v:Value} {xs:List Value} (h:StQ W L' L) (hrow:W.ownsRow B 69 3 r n xs) (a b:Int) (es:List Ed) (h2:es.length≤3518437208780) (hv:W.ownsRow B' 54 5 v es.length (recV edV es)) (hg:W.grownBy W' r.ownBlock):StQ W' (L'++[(a,b,v)]) (L++[(a,b,es)]):=by
 refine ⟨by simp [h.1],fun i x s hx hs=>?_⟩
 rcases Nat.lt_or_ge i L'.length with hi | hi
 ·rw [List.getElem?_append_left hi] at hx
  rw [List.getElem?_append_left (by rw [← h.1];exact hi)] at hs
  obtain ⟨p,q,⟨B,c⟩,d⟩:=h.2 i x s hx hs
  exact ⟨p,q,⟨B,owns_kept11 c hrow (by decide) hg⟩,d⟩
 ·rw [List.getElem?_append_right hi] at hx
  rw [List.getElem?_append_right (by rw [← h.1];exact hi)] at hs
  rw [h.1] at hx
  rcases Nat.eq_zero_or_pos (i - L.length) with h0 | h0
  ·rw [h0] at hx hs
   simp only [List.getElem?_cons_zero,Option.some.injEq] at hx hs
   subst hx hs
   exact ⟨rfl,rfl,⟨B',owns_kept11 hv hrow (by decide) hg⟩,h2⟩
  ·rw [List.getElem?_eq_none (by simp;omega)] at hx
   cases hx
set_option maxHeartbeats 8000000 in
theorem pring11_any (l:List Stp) (vl:Value) (w:World) (hT:IsSts w vl l) (hSl:Shp vl) (okl:∀ x∈l,goodSt x) (hl:l.length≤3518437208780) :
 Calls Tryz.prog 52 #[vl] w fun e w'=>RingRes 69 w (ringL l) e w':=by
 obtain ⟨i0,hi,hz0,hz1,hz2⟩:=info_parts st_info
 have CE:=pends11_any l vl w hT hl
 have HT:=Lib.hid hT
 have HSl:=Lib.hid hSl
 have Hok:=Lib.hid okl
 obtain ⟨al,cl,hvl,_⟩:=sts_at hT
 obtain ⟨nl,hnl⟩:∃ nl,l.length=nl:=⟨_,rfl⟩
 have HNl:=Lib.hid hnl
 rw [hnl] at hvl hl
 subst hvl
 clear hT hSl okl hnl
 go_enter Tryz.func52,Tryz.ntmps52
 go_wp2_with fail
 refine CE.mono ?_
 rintro e w1 ⟨vN0,rfl,b1,own1⟩
 have hI1:IsInts w1 vN0 (nodesL l):=by rw [← iV_rec] at own1;exact IsRec.own intV_len (by omega) own1 (by rw [nodes_len,HNl.out];omega)
 have CW:=pweave11_any vN0 (.slice al nl cl) (nodesL l) l w1 hI1 (Shp.own own1) (okn_of l Hok.out) (by rw [nodes_len,HNl.out];omega) (HT.out.below b1) HSl.out Hok.out (by rw [HNl.out];omega)
 obtain ⟨ae,ce,rfl⟩:=own_shape11 own1
 have Hb1:=Lib.hid b1
 clear CE b1 own1 hI1
 go_wp2_with fail
 refine CW.mono ?_
 rintro e Wc ⟨N,vN,m1,m2,m3,rfl,hNum,bC,hWeb,hCM,hm1⟩
 obtain ⟨aN,cN,hvN,n1,n2,n3,_⟩:=hWeb.nums.some_at
 have HWeb:=Lib.hid hWeb
 have HNum:=Lib.hid hNum
 have HbC:Hid (Below w.heap.size w Wc):=bel_trans Hb1.out bC
 have Hm1:Hid (w.heap.size≤m1):=Nat.le_trans Hb1.out.size hm1
 have hNle:N.length≤7036874417560:=by have h9:=hNum.2.2;rw [nodes_len,HNl.out] at h9;omega
 have HE:Hid (∀ s∈l,inN N s.1=true∧inN N s.2.1=true):=fun s hs=>by
  have h9:=nodes_mem l s hs
  unfold inN
  exact ⟨by simpa using (HNum.out.2.1 _).2 h9.1,by simpa using (HNum.out.2.1 _).2 h9.2⟩
 have hml:=isMap_lt hWeb.isM
 obtain ⟨bw,hbw⟩:∃ bw,Wc.heap.size=bw:=⟨_,rfl⟩
 have Hbw:=Lib.hid hbw
 have Hml:Hid (m1 < bw):=by rw [hbw] at hml;exact hml
 obtain ⟨nN,hnN⟩:∃ nN,N.length=nN:=⟨_,rfl⟩
 have HNN:=Lib.hid hnN
 rw [hnN] at hvN n1 n3 hNle
 subst hvN
 have bA:Below Wc.heap.size Wc (Wc.alloc (.cells (webC (.slice al nl cl) (.slice aN nN cN) m1 m2 m3) tW)):=(Below.refl _ _).alloc (Nat.le_refl _) _
 have CP:=pstrip11_any Wc (Wc.alloc (.cells (webC (.slice al nl cl) (.slice aN nN cN) m1 m2 m3) tW)) l N (.slice al nl cl) (.slice aN nN cN) m1 m2 m3 hWeb (inN N) (fun y hy=>by unfold inN at hy;simpa using hy) (hCM.bel bA hml) (World.grownBy_alloc _ _ _) (.slice aN nN cN) N (hWeb.nums.below bA) hWeb.shpn (fun y hy=>hy) (by omega)
 have HX:Hid (SBox (Wc.alloc (.cells (webC (.slice al nl cl) (.slice aN nN cN) m1 m2 m3) tW)) bw tW (webC (.slice al nl cl) (.slice aN nN cN) m1 m2 m3)):=by rw [← hbw];exact SBox.new Wc tW _
 clear CW hWeb hNum bC hCM hm1 hml bA hnN
 go_wp2_with fail
 refine CP.mono ?_
 rintro e W2 ⟨rfl,S1,hL1,hc1,hg1,hgg1⟩
 have HW2:Hid (RgW Wc W2 m1 bw (webC (.slice al nl cl) (.slice aN nN cN) m1 m2 m3) l S1 (.slice none 0 0) []):=⟨(hgg1.block bw HX.out.lt (fun e=>by have e9:=Option.some.inj e;have:=Hml.out;omega)).trans HX.out,hc1,hg1,World.ownsRow_nil _ _ _ _⟩
 have HL2:Hid (RgL l N 0 S1 (fun _=>false) none []):=⟨hL1.2 _ (all_start l (inN N) (fun s hs=>(HE.out s hs).1)),best_start l,fun x hx=>by have h9:=hL1.1 x hx;unfold inN at h9;simpa using h9,fun x hx=>by simp at hx,rfl,fun p hp=>(by cases hp),rfl,Nat.zero_le _⟩
 have x1:=HW2.out.bx.cell 1 _ rfl
 clear CP hL1 hc1 hg1 hgg1 hbw
 go_wp2_with fail
 go_loopw [5,25] (fun pv i wr=>∃ (k:Nat) (S T:Int→Bool) (best:Option (Int × Nat)) (ps:List Nat),k≤nN∧i=.int .i64 (k:Int)∧Hid (RgW Wc wr m1 bw (webC (.slice al nl cl) (.slice aN nN cN) m1 m2 m3) l S pv ps)∧Hid (RgL l N k S T best ps)) (fun _ i _=>nN - (intOf i).toNat)
 case atStart=>exact ⟨0,S1,fun _=>false,none,[],Nat.zero_le _,rfl,HW2,HL2⟩
 case round =>
  clear x1 HW2 HL2
  obtain ⟨k,S,T,best,ps,hk,rfl,HWr,HLr⟩:=hrel
  obtain ⟨ad,cc,rfl⟩:=own_shape11 HWr.out.row
  have hfew:=HLr.out.few
  obtain ⟨np,hnp⟩:∃ np,ps.length=np:=⟨_,rfl⟩
  have Hnp:=Lib.hid hnp
  rw [hnp] at hfew
  rw [HNN.out] at hfew
  have HWr':Hid (RgW Wc wr m1 bw (webC (.slice al nl cl) (.slice aN nN cN) m1 m2 m3) l S (.slice ad np cc) ps):=by rw [← hnp];exact HWr
  rw [hnp]
  clear HWr hnp
  by_cases hlt:k < nN
  ·have j0:(k:Int) < (nN:Int):=by omega
   have hkN:Hid (k < N.length):=by show _ < _;rw [HNN.out];exact hlt
   obtain ⟨aN',cN',ef,_,_,_,HQ⟩:=IsInts.reads (HWeb.out.nums.turned intV_len (by omega) HWeb.out.isM HWr'.out.gr)
   obtain ⟨bN,oN,ea,HQ2⟩:=HQ.out (by have:=hkN.out;omega)
   have cell:=HQ2.out k hkN.out wr (Below.refl _ _)
   rw [getD_at N 0 k hkN.out] at cell
   obtain ⟨rfl,rfl⟩:aN=aN'∧cN=cN':=by
    have hh:=HNN.out
    simpa [hh] using ef
   subst ea
   have hIy:I64 (N[k]'hkN.out):=HWeb.out.okN _ (List.getElem_mem hkN.out)
   obtain ⟨y,hy⟩:∃ y,N[k]'hkN.out=y:=⟨_,rfl⟩
   have HNk:Hid (N[k]'hkN.out=y):=hy
   rw [hy] at cell hIy
   have x0:=HWr'.out.bx.cell 0 _ rfl
   have x1:=HWr'.out.bx.cell 1 _ rfl
   have x2:=HWr'.out.bx.cell 2 _ rfl
   have x3:=HWr'.out.bx.cell 3 _ rfl
   have x4:=HWr'.out.bx.cell 4 _ rfl
   clear ef hy HQ HQ2
   cases hSy:S y with
   | false =>
     have CH:=phas11_any (.slice al nl cl) (.slice (some ⟨bN,oN,none⟩) nN cN) m1 m2 m3 17592186044416 (cntF l S) y wr hIy HWr'.out.cm false (by rw [cntF_some];exact hSy)
     have HL1:Hid (RgL l N (k+1) S T best ps):=HLr.out.skip hkN.out (by rw [HNk.out];exact hSy)
     clear hSy
     go_wp2_with fail
     refine CH.mono ?_
     rintro e w1 ⟨rfl,b1⟩
     have HW1:=Lib.hid (HWr'.out.bel b1)
     clear CH x0 x1 x2 x3 x4 b1 cell
     go_wp2_with fail
     refine ⟨⟨k+1,S,T,best,ps,by omega,by first | go_num | simp,HW1,HL1⟩,by simp [intOf];omega⟩
   | true =>
     have CH:=phas11_any (.slice al nl cl) (.slice (some ⟨bN,oN,none⟩) nN cN) m1 m2 m3 17592186044416 (cntF l S) y wr hIy HWr'.out.cm true (by rw [cntF_some];exact hSy)
     go_wp2_with fail
     refine CH.mono ?_
     rintro e w1 ⟨rfl,b1⟩
     have HW1:=Lib.hid (HWr'.out.bel b1)
     have CS:=pshort11_any Wc w1 l N (.slice al nl cl) (.slice (some ⟨bN,oN,none⟩) nN cN) m1 m2 m3 HWeb.out S HLr.out.sub HW1.out.cm HW1.out.gr y hSy np (by omega) (by rw [HNN.out];exact hNle)
     clear CH x0 x1 x2 x3 x4 b1 cell
     have x0:=HW1.out.bx.cell 0 _ rfl
     have x1:=HW1.out.bx.cell 1 _ rfl
     have x2:=HW1.out.bx.cell 2 _ rfl
     have x3:=HW1.out.bx.cell 3 _ rfl
     have x4:=HW1.out.bx.cell 4 _ rfl
     go_wp2_with fail
     refine CS.mono ?_
     rintro e w2 ⟨ma,many,Q,rfl,b2,hQ,hma,hsh,hmn⟩
     have hmost:np=mostOf best:=by rw [← Hnp.out];exact HLr.out.pl
     rw [hmost] at hsh
     have HW2:=Lib.hid (HW1.out.bel b2)
     have Hmost:=Lib.hid hmost
     have Hsh:=Lib.hid hsh
     have HQ:=Lib.hid hQ
     rw [HNN.out] at hmn
     clear CS x0 x1 x2 x3 x4 b2 hmost hsh hQ hma
     have x0:=HW2.out.bx.cell 0 _ rfl
     have x1:=HW2.out.bx.cell 1 _ rfl
     have x2:=HW2.out.bx.cell 2 _ rfl
     have x3:=HW2.out.bx.cell 3 _ rfl
     have x4:=HW2.out.bx.cell 4 _ rfl
     rcases Nat.eq_zero_or_pos many with h0 | h0
     ·subst h0
      have HBn:Hid (BestOk l (addB T y) best):=best_same HLr.out.all HLr.out.bst Hsh.out
      have hml':=Hml.out
      have hst:=HW2.out.start
      have bAl:Below w2.heap.size w2 (w2.alloc (.cells #[.slice none 0 0] tI)):=(Below.refl _ _).alloc (Nat.le_refl _) _
      have hWA:=HW2.out.bel bAl
      have hlx:=out_len l (inN N) y
      have CT:=ptakeR_any Wc (w2.alloc (.cells #[.slice none 0 0] tI)) l N (.slice al nl cl) (.slice (some ⟨bN,oN,none⟩) nN cN) m1 m2 m3 HWeb.out S HLr.out.sub hWA.cm hWA.gr y hSy (bw+1) w2.heap.size (by have:=Hbw.out;omega) [] hst.2 (RgI bw w2.heap.size (webC (.slice al nl cl) (.slice (some ⟨bN,oN,none⟩) nN cN) m1 m2 m3) (.slice ad np cc) ps) hst.1 (fun V V' h g=>h.turn g hml') (fun V V' a h hv fr=>h.fr hv fr) 17592186044416 (Nat.le_refl _) (by simp only [List.length_nil];have:=HNl.out;omega) (fun y hy=>by cases hy)
      have t0:=hWA.bx.cell 0 _ rfl
      have t1:=hWA.bx.cell 1 _ rfl
      have t2:=hWA.bx.cell 2 _ rfl
      have t3:=hWA.bx.cell 3 _ rfl
      have t4:=hWA.bx.cell 4 _ rfl
      clear hst bAl hWA
      go_wp2_with fail
      refine CT.mono ?_
      rintro e w5 ⟨rfl,⟨a',hVa,hla,haN⟩,hI5,hc5,hg5⟩
      clear CT t0 t1 t2 t3 t4
      have hVa2:=hVa.2
      obtain ⟨u,hub,hur⟩:=hVa2
      obtain ⟨au,cu,rfl⟩:=own_shape11 hur
      have hna:a'.length≤7036874417560:=by simp only [List.length_nil] at hla;have:=HNl.out;omega
      have hSd:∀ z,dropB S y z=true→z∈N:=fun z hz=>HLr.out.sub z (by unfold dropB at hz;simp at hz;exact hz.1)
      have CP:=pstrip11_any Wc w5 l N (.slice al nl cl) (.slice (some ⟨bN,oN,none⟩) nN cN) m1 m2 m3 HWeb.out (dropB S y) hSd hc5 hg5 (.slice au a'.length cu) a' (by rw [← iV_rec] at hur;exact IsRec.own intV_len (by omega) hur (by omega)) (Shp.own hur) haN hna
      have v0:=hub.cell
      have t0:=hI5.1.cell 0 _ rfl
      have t1:=hI5.1.cell 1 _ rfl
      have t2:=hI5.1.cell 2 _ rfl
      have t3:=hI5.1.cell 3 _ rfl
      have t4:=hI5.1.cell 4 _ rfl
      obtain ⟨na,hnaE⟩:∃ na,a'.length=na:=⟨_,rfl⟩
      rw [hnaE] at v0 CP
      have HI5:=Lib.hid hI5
      clear hub hur hla hnaE hna hVa hI5 hc5 hg5 hSd
      go_wp2_with fail
      refine CP.mono ?_
      rintro e w6 ⟨rfl,S6,hL6,hc6,hg6,hgg6⟩
      have hI6:=HI5.out.turn hgg6 hml'
      have HW6:Hid (RgW Wc w6 m1 bw (webC (.slice al nl cl) (.slice (some ⟨bN,oN,none⟩) nN cN) m1 m2 m3) l S6 (.slice ad np cc) ps):=⟨hI6.1,hc6,hg6,hI6.2.1⟩
      have HL6:Hid (RgL l N (k+1) S6 (addB T y) best ps):=HLr.out.next hkN.out HNk.out hL6 HBn.out HLr.out.pl HLr.out.pb HLr.out.pp HLr.out.few
      clear CP t0 t1 t2 t3 t4 v0 hI6 hL6 hc6 hg6 hgg6
      go_wp2_with fail
      refine ⟨⟨k+1,S6,addB T y,best,ps,by omega,by first | go_num | simp,HW6,HL6⟩,by simp [intOf];omega⟩
     ·have jm:(0:Int) < (many:Int):=by omega
      have CK:=pwalk11_any Wc w2 l N (.slice al nl cl) (.slice (some ⟨bN,oN,none⟩) nN cN) m1 m2 m3 HWeb.out HW2.out.gr HE.out y hIy many (by omega) ma Q.length Q HQ.out (aw_ok HLr.out.all HLr.out.bst Hsh.out h0) (walk_lS (Hsh.out.2 h0).1)
      have HBn:Hid (BestOk l (addB T y) (some (y,many))):=best_new N k hkN.out HNum.out.1 HNk.out HLr.out.sub HLr.out.done HLr.out.all HLr.out.bst Hsh.out h0
      go_wp2_with fail
      refine CK.mono ?_
      rintro e w3 ⟨v3,ps3,rfl,b3,own3,l3,pb3,pp3⟩
      obtain ⟨ad3,cc3,rfl⟩:=own_shape11 own3
      have HW3:Hid (RgW Wc w3 m1 bw (webC (.slice al nl cl) (.slice (some ⟨bN,oN,none⟩) nN cN) m1 m2 m3) l S (.slice ad3 ps3.length cc3) ps3):=by
       have h9:=HW2.out.bel b3
       exact ⟨h9.bx,h9.cm,h9.gr,own_mono11 own3 (by have:=HW2.out.bx.lt;omega)⟩
      have Hl3:=Lib.hid l3
      have Hpb3:=Lib.hid pb3
      have Hpp3:=Lib.hid pp3
      clear CK x0 x1 x2 x3 x4 b3 own3 l3 pb3 pp3
      have hml':=Hml.out
      have hst:=HW3.out.start
      have bAl:Below w3.heap.size w3 (w3.alloc (.cells #[.slice none 0 0] tI)):=(Below.refl _ _).alloc (Nat.le_refl _) _
      have hWA:=HW3.out.bel bAl
      have hlx:=out_len l (inN N) y
      have CT:=ptakeR_any Wc (w3.alloc (.cells #[.slice none 0 0] tI)) l N (.slice al nl cl) (.slice (some ⟨bN,oN,none⟩) nN cN) m1 m2 m3 HWeb.out S HLr.out.sub hWA.cm hWA.gr y hSy (bw+1) w3.heap.size (by have:=Hbw.out;omega) [] hst.2 (RgI bw w3.heap.size (webC (.slice al nl cl) (.slice (some ⟨bN,oN,none⟩) nN cN) m1 m2 m3) (.slice ad3 ps3.length cc3) ps3) hst.1 (fun V V' h g=>h.turn g hml') (fun V V' a h hv fr=>h.fr hv fr) 17592186044416 (Nat.le_refl _) (by simp only [List.length_nil];have:=HNl.out;omega) (fun y hy=>by cases hy)
      have t0:=hWA.bx.cell 0 _ rfl
      have t1:=hWA.bx.cell 1 _ rfl
      have t2:=hWA.bx.cell 2 _ rfl
      have t3:=hWA.bx.cell 3 _ rfl
      have t4:=hWA.bx.cell 4 _ rfl
      clear hst bAl hWA
      go_wp2_with fail
      refine CT.mono ?_
      rintro e w5 ⟨rfl,⟨a',hVa,hla,haN⟩,hI5,hc5,hg5⟩
      clear CT t0 t1 t2 t3 t4
      have hVa2:=hVa.2
      obtain ⟨u,hub,hur⟩:=hVa2
      obtain ⟨au,cu,rfl⟩:=own_shape11 hur
      have hna:a'.length≤7036874417560:=by simp only [List.length_nil] at hla;have:=HNl.out;omega
      have hSd:∀ z,dropB S y z=true→z∈N:=fun z hz=>HLr.out.sub z (by unfold dropB at hz;simp at hz;exact hz.1)
      have CP:=pstrip11_any Wc w5 l N (.slice al nl cl) (.slice (some ⟨bN,oN,none⟩) nN cN) m1 m2 m3 HWeb.out (dropB S y) hSd hc5 hg5 (.slice au a'.length cu) a' (by rw [← iV_rec] at hur;exact IsRec.own intV_len (by omega) hur (by omega)) (Shp.own hur) haN hna
      have v0:=hub.cell
      have t0:=hI5.1.cell 0 _ rfl
      have t1:=hI5.1.cell 1 _ rfl
      have t2:=hI5.1.cell 2 _ rfl
      have t3:=hI5.1.cell 3 _ rfl
      have t4:=hI5.1.cell 4 _ rfl
      obtain ⟨na,hnaE⟩:∃ na,a'.length=na:=⟨_,rfl⟩
      rw [hnaE] at v0 CP
      have HI5:=Lib.hid hI5
      clear hub hur hla hnaE hna hVa hI5 hc5 hg5 hSd
      go_wp2_with fail
      refine CP.mono ?_
      rintro e w6 ⟨rfl,S6,hL6,hc6,hg6,hgg6⟩
      have hI6:=HI5.out.turn hgg6 hml'
      have HW6:Hid (RgW Wc w6 m1 bw (webC (.slice al nl cl) (.slice (some ⟨bN,oN,none⟩) nN cN) m1 m2 m3) l S6 (.slice ad3 ps3.length cc3) ps3):=⟨hI6.1,hc6,hg6,hI6.2.1⟩
      have HL6:Hid (RgL l N (k+1) S6 (addB T y) (some (y,many)) ps3):=HLr.out.next hkN.out HNk.out hL6 HBn.out Hl3.out Hpb3.out Hpp3.out (by rw [Hl3.out,HNN.out];exact hmn)
      clear CP t0 t1 t2 t3 t4 v0 hI6 hL6 hc6 hg6 hgg6
      go_wp2_with fail
      refine ⟨⟨k+1,S6,addB T y,(some (y,many)),ps3,by omega,by first | go_num | simp,HW6,HL6⟩,by simp [intOf];omega⟩
  ·obtain rfl:nN=k:=by omega
   have jq:¬ (nN:Int) < (nN:Int):=by omega
   have HF0:Hid ((ringL l).getD []=ps.map (stA l)∧(ringL l).isSome=decide (0 < ps.length)∧ps.length≤l.length):=by
    have h9:=HLr.out
    rw [← HNN.out] at h9
    exact h9.fin (fun s hs=>by have h8:=(HE.out s hs).1;unfold inN at h8;simpa using h8)
   have hnpl:np≤nl:=by have h9:=HF0.out.2.2;rw [Hnp.out,HNl.out] at h9;exact h9
   have HRw:Hid (wr.ownsRow (bw+1) 3 1 (.slice ad np cc) np (plV ps)):=by have h9:=HWr'.out.row;rw [Hnp.out] at h9;exact h9
   have Hpb:=Lib.hid HLr.out.pb
   have HSt:Hid (IsSts wr (.slice al nl cl) l):=HWeb.out.sts.turned HWeb.out.isM HWr'.out.gr
   have HbE:Hid (Below w.heap.size w wr):=HbC.out.grown HWr'.out.gr HbC.out.size (fun j hj=>by have e9:=Option.some.inj hj;have:=Hm1.out;omega)
   obtain ⟨wE,hwE⟩:∃ wE,wE=wr:=⟨_,rfl⟩
   rw [← hwE] at HRw HSt HbE
   subst hwE
   clear HWr' HLr
   go_wp2_with fail
   go_loopw [11,58] (fun r i wr=>∃ (k:Nat) (L':List SVt),k≤np∧i=.int .i64 (k:Int)∧Hid (L'.length=k)∧Hid (StQ wr L' ((ps.take k).map (stA l)))∧Hid (Below wE.heap.size wE wr)∧wr.ownsRow wE.heap.size 69 3 r k (recV stV L')) (fun _ i _=>np - (intOf i).toNat)
   case atStart=>exact ⟨0,[],Nat.zero_le _,rfl,rfl,StQ.nil _,Below.refl _ _,World.ownsRow_nil _ _ _ _⟩
   case round =>
    obtain ⟨k,L',hk,rfl,HL,HS,HBw,hrow⟩:=hrel
    obtain ⟨ar,cr,rfl⟩:=own_shape11 hrow
    by_cases hlt:k < np
    ·have j0:(k:Int) < (np:Int):=by omega
     have hkp:Hid (k < ps.length):=by show _ < _;rw [Hnp.out];exact hlt
     obtain ⟨g,ea,cP⟩:=own_at11 HRw.out k hlt
     subst ea
     have hgl:g < wE.heap.size:=(HRw.out.lt g rfl).2
     have eP:(ps.map Int.ofNat).getD k 0=((ps[k]'hkp.out:Nat):Int):=by rw [getD_at _ _ _ (by rw [List.length_map];exact hkp.out),List.getElem_map];rfl
     rw [eP] at cP
     have hpk:ps[k]'hkp.out < l.length:=Hpb.out _ (List.getElem_mem hkp.out)
     have HTk:Hid ((ps.take (k+1)).map (stA l)=(ps.take k).map (stA l)++[stA l (ps[k]'hkp.out)]):=by show _=_;rw [List.take_succ_eq_append_getElem hkp.out,List.map_append];rfl
     obtain ⟨pk,hpkE⟩:∃ pk,ps[k]'hkp.out=pk:=⟨_,rfl⟩
     rw [hpkE] at cP hpk HTk
     have cP':=(HBw.out.cell (p:=⟨g,k,none⟩) hgl).trans cP
     obtain ⟨al',cl',el,_,_,_,HLc⟩:=HSt.out.reads
     obtain ⟨bb,off,eb,u,hu,HQ⟩:=HLc.out pk hpk
     obtain ⟨rfl,rfl⟩:al=al'∧cl=cl':=by
      have hh:=HNl.out
      simpa [hh] using el
     subst eb
     obtain ⟨⟨s0,s1,sE⟩,he⟩:∃ x,l[pk]=x:=⟨_,rfl⟩
     have hsE:sE.length≤3518437208780:=by have h9:=(Hok.out _ (List.getElem_mem hpk)).2.2;rw [he] at h9;exact h9
     rw [stA_at l pk hpk,he] at HTk
     rw [he] at hu HQ
     simp only at hu HQ
     obtain ⟨au,cu,rfl,_⟩:=hu.some_at
     have Hu:=Lib.hid hu
     have HsE:=Lib.hid hsE
     obtain ⟨nE,hnE⟩:∃ nE,sE.length=nE:=⟨_,rfl⟩
     have HnE:=Lib.hid hnE
     have HQ':Hid (∀ V,Below wE.heap.size wE V→V.cell? ⟨bb,off+pk*3,none⟩=some (.int .i64 s0)∧V.cell? ⟨bb,off+pk*3+1,none⟩=some (.int .i64 s1)∧V.cell? ⟨bb,off+pk*3+2,none⟩=some (.slice au nE cu)):=by rw [← hnE];exact HQ
     have Hu':Hid (IsEds wE (.slice au nE cu) sE):=by rw [← hnE];exact hu
     have jp:(pk:Int) < (nl:Int):=by have h9:=HNl.out;omega
     have jp0:pk < nl:=by omega
     clear HQ HLc hu eP hpkE cP el he hnE hsE Hu
     go_wp2_with fail
     refine wp_region_any (by kernel_rfl) ?_
     change wpAny _ _ _ _ _ _ _ (World.drew _)
     generalize hwd:World.drew _=wd
     have hbd:Below wE.heap.size wE wd:=by rw [← hwd];exact HBw.out.drew
     have hrowd:wd.ownsRow wE.heap.size 69 3 (.slice ar k cr) k (recV stV L'):=by rw [← hwd];exact hrow
     have hsd:StQ wd L' ((ps.take k).map (stA l)):=by rw [← hwd];exact HS.out
     clear hwd hrow cP'
     have sd:=hbd.size
     obtain ⟨d0,d1,d2⟩:=HQ'.out _ hbd
     refine any_of_C (C:=fun V=>V.cell? ⟨bb,off+pk*3,none⟩=some (.int .i64 s0)∧V.cell? ⟨bb,off+pk*3+1,none⟩=some (.int .i64 s1)∧V.cell? ⟨bb,off+pk*3+2,none⟩=some (.slice au nE cu)) 20 _ _ _ _ ?_
     refine takeC (i:=0) (v:=.slice ar k cr) rfl (by kernel_rfl) (by kernel_rfl) (by kernel_rfl) (by kernel_rfl) (by kernel_rfl) (fun _ _ _ h=>h) (Or.inl ⟨by kernel_rfl,fun V hV=>by obtain ⟨r0,r1,r2⟩:=hV;go_simp⟩) ?_
     refine takeC (i:=1) (v:=.slice (some ⟨bb,off,none⟩) nl cl) rfl (by kernel_rfl) (by kernel_rfl) (by kernel_rfl) (by kernel_rfl) (by kernel_rfl) (fun _ _ _ h=>h) (Or.inl ⟨by kernel_rfl,fun V hV=>by obtain ⟨r0,r1,r2⟩:=hV;go_simp⟩) ?_
     refine takeC (i:=2) (v:=.int .i64 (pk:Int)) rfl (by kernel_rfl) (by kernel_rfl) (by kernel_rfl) (by kernel_rfl) (by kernel_rfl) (fun _ _ _ h=>h) (Or.inl ⟨by kernel_rfl,fun V hV=>by obtain ⟨r0,r1,r2⟩:=hV;go_simp⟩) ?_
     refine takeC (i:=3) (v:=.pointer (some ⟨bb,off+pk*3,none⟩)) rfl (by kernel_rfl) (by kernel_rfl) (by kernel_rfl) (by kernel_rfl) (by kernel_rfl) (fun _ _ _ h=>h) (Or.inl ⟨by kernel_rfl,fun V hV=>by obtain ⟨r0,r1,r2⟩:=hV;go_simp⟩) ?_
     refine takeC (i:=4) (v:=.pointer (some ⟨bb,off+pk*3,none⟩)) rfl (by kernel_rfl) (by kernel_rfl) (by kernel_rfl) (by kernel_rfl) (by kernel_rfl) (fun _ _ _ h=>h) (Or.inl ⟨by kernel_rfl,fun V hV=>by obtain ⟨r0,r1,r2⟩:=hV;go_simp⟩) ?_
     refine takeC (i:=5) (v:=.int .i64 s0) rfl (by kernel_rfl) (by kernel_rfl) (by kernel_rfl) (by kernel_rfl) (by kernel_rfl) (fun _ _ _ h=>h) (Or.inl ⟨by kernel_rfl,fun V hV=>by obtain ⟨r0,r1,r2⟩:=hV;go_simp⟩) ?_
     refine takeC (i:=6) (v:=.slice (some ⟨bb,off,none⟩) nl cl) rfl (by kernel_rfl) (by kernel_rfl) (by kernel_rfl) (by kernel_rfl) (by kernel_rfl) (fun _ _ _ h=>h) (Or.inl ⟨by kernel_rfl,fun V hV=>by obtain ⟨r0,r1,r2⟩:=hV;go_simp⟩) ?_
     refine takeC (i:=7) (v:=.int .i64 (pk:Int)) rfl (by kernel_rfl) (by kernel_rfl) (by kernel_rfl) (by kernel_rfl) (by kernel_rfl) (fun _ _ _ h=>h) (Or.inl ⟨by kernel_rfl,fun V hV=>by obtain ⟨r0,r1,r2⟩:=hV;go_simp⟩) ?_
     refine takeC (i:=8) (v:=.pointer (some ⟨bb,off+pk*3,none⟩)) rfl (by kernel_rfl) (by kernel_rfl) (by kernel_rfl) (by kernel_rfl) (by kernel_rfl) (fun _ _ _ h=>h) (Or.inl ⟨by kernel_rfl,fun V hV=>by obtain ⟨r0,r1,r2⟩:=hV;go_simp⟩) ?_
     refine takeC (i:=9) (v:=.pointer (some ⟨bb,off+pk*3+1,none⟩)) rfl (by kernel_rfl) (by kernel_rfl) (by kernel_rfl) (by kernel_rfl) (by kernel_rfl) (fun _ _ _ h=>h) (Or.inl ⟨by kernel_rfl,fun V hV=>by obtain ⟨r0,r1,r2⟩:=hV;go_simp⟩) ?_
     refine takeC (i:=10) (v:=.int .i64 s1) rfl (by kernel_rfl) (by kernel_rfl) (by kernel_rfl) (by kernel_rfl) (by kernel_rfl) (fun _ _ _ h=>h) (Or.inl ⟨by kernel_rfl,fun V hV=>by obtain ⟨r0,r1,r2⟩:=hV;go_simp⟩) ?_
     refine takeC (i:=11) (v:=.slice (some ⟨bb,off,none⟩) nl cl) rfl (by kernel_rfl) (by kernel_rfl) (by kernel_rfl) (by kernel_rfl) (by kernel_rfl) (fun _ _ _ h=>h) (Or.inl ⟨by kernel_rfl,fun V hV=>by obtain ⟨r0,r1,r2⟩:=hV;go_simp⟩) ?_
     refine takeC (i:=12) (v:=.int .i64 (pk:Int)) rfl (by kernel_rfl) (by kernel_rfl) (by kernel_rfl) (by kernel_rfl) (by kernel_rfl) (fun _ _ _ h=>h) (Or.inl ⟨by kernel_rfl,fun V hV=>by obtain ⟨r0,r1,r2⟩:=hV;go_simp⟩) ?_
     refine takeC (i:=13) (v:=.pointer (some ⟨bb,off+pk*3,none⟩)) rfl (by kernel_rfl) (by kernel_rfl) (by kernel_rfl) (by kernel_rfl) (by kernel_rfl) (fun _ _ _ h=>h) (Or.inl ⟨by kernel_rfl,fun V hV=>by obtain ⟨r0,r1,r2⟩:=hV;go_simp⟩) ?_
     refine takeC (i:=14) (v:=.pointer (some ⟨bb,off+pk*3+2,none⟩)) rfl (by kernel_rfl) (by kernel_rfl) (by kernel_rfl) (by kernel_rfl) (by kernel_rfl) (fun _ _ _ h=>h) (Or.inl ⟨by kernel_rfl,fun V hV=>by obtain ⟨r0,r1,r2⟩:=hV;go_simp⟩) ?_
     refine takeC (i:=15) (v:=.slice au nE cu) rfl (by kernel_rfl) (by kernel_rfl) (by kernel_rfl) (by kernel_rfl) (by kernel_rfl) (fun _ _ _ h=>h) (Or.inl ⟨by kernel_rfl,fun V hV=>by obtain ⟨r0,r1,r2⟩:=hV;go_simp⟩) ?_
     refine consC (i:=16) (by kernel_rfl) (by kernel_rfl) ⟨d0,d1,d2⟩ rfl (fun K hK=>?_)
     have CC:=pcloneE_any (.slice au nE cu) sE wd (Hu'.out.below hbd) HsE.out
     go_wp2_with fail
     refine CC.mono ?_
     rintro e w5 ⟨u5,rfl,b5,own5⟩
     obtain ⟨a5,c5,rfl⟩:=own_shape11 own5
     rw [HnE.out] at own5 ⊢
     have hb5:Below wE.heap.size wE w5:=bel_trans hbd b5
     have hrow5:=owns_below hrowd b5
     have hs5:=hsd.below b5
     obtain ⟨e0,e1,e2⟩:=HQ'.out _ hb5
     have s5:=hb5.size
     clear CC hrowd hsd hbd b5 d0 d1 d2
     go_wp2_with fail
     refine takeC (i:=17) (v:=.agg #[.int .i64 s0,.int .i64 s1,.slice a5 nE c5]) rfl (by kernel_rfl) (by kernel_rfl) (by kernel_rfl) (by kernel_rfl) (by kernel_rfl) (fun _ _ _ h=>h) (Or.inl ⟨by kernel_rfl,fun V hV=>by obtain ⟨r0,r1,r2⟩:=hV;go_simp⟩) ?_
     refine consC (i:=18) (by kernel_rfl) (by kernel_rfl) ⟨e0,e1,e2⟩ rfl (fun K hK=>?_)
     go_wp2_with fail
     have hb6:Below wE.heap.size wE (w5.alloc (.cells #[.int .i64 s0,.int .i64 s1,.slice a5 nE c5] 69)):=hb5.alloc s5 _
     obtain ⟨f0,f1,f2⟩:=HQ'.out _ hb6
     refine consC (i:=19) (by kernel_rfl) (by kernel_rfl) ⟨f0,f1,f2⟩ rfl (fun K hK=>?_)
     refine wpList_append_own_at _ rfl _ _ 38 rfl wE.heap.size 69 i0 (.agg #[.int .i64 0,.int .i64 0,.slice none 0 0]) 3 40 Tryz.underlying38 hi hz0 hz1 hz2 rfl (by decide) (.slice ar k cr) _ _ rfl (hrow5.alloc _) ⟨w5.heap.size,0,none⟩ 1 1 [.int .i64 s0,.int .i64 s1,.slice a5 nE c5] rfl rfl ?a1 ?a2 ?a3 ?a4 ?a5 ?_
     case a1=>intro j u hj;match j,hj with
      | 0,hj=>simp at hj;subst hj;first | (simp [Addr.add];done) | exact cell_new7 (by simp) rfl
      | 1,hj=>simp at hj;subst hj;first | (simp [Addr.add];done) | exact cell_new7 (by simp) rfl
      | 2,hj=>simp at hj;subst hj;first | (simp [Addr.add];done) | exact cell_new7 (by simp) rfl
     case a2=>intro u hu;simp at hu;rcases hu with rfl | rfl | rfl<;>rfl
     case a3=>unfold maxLen;omega
     case a4=>omega
     case a5=>simp;omega
     intro r3 w3 hown3 hg3 _ hat3
     have bT:Below w5.heap.size w5 (w5.alloc (.cells #[.int .i64 s0,.int .i64 s1,.slice a5 nE c5] 69)):=(Below.refl _ _).alloc (Nat.le_refl _) _
     have hs3:=(hs5.below bT).push (hrow5.alloc _) s0 s1 sE HsE.out (v:=.slice a5 nE c5) (by rw [HnE.out];exact own5.alloc _) hg3
     have B3:Below wE.heap.size wE w3:=hb6.grown hg3 hb6.size (fun j hj=>(hrow5.lt j hj).1)
     obtain ⟨f0,f1,f2⟩:=HQ'.out _ B3
     have HS3:Hid (StQ w3 (L'++[(s0,s1,.slice a5 nE c5)]) ((ps.take (k+1)).map (stA l))):=by show StQ _ _ _;rw [HTk.out];exact hs3
     have HB3:=Lib.hid B3
     have HL3:Hid ((L'++[((s0,s1,.slice a5 nE c5):SVt)]).length=k+1):=by show _=_;rw [List.length_append,HL.out];rfl
     have hown4:w3.ownsRow wE.heap.size 69 3 r3 (k+1) (recV stV (L'++[(s0,s1,.slice a5 nE c5)])):=by rw [recS_snoc];exact hown3
     obtain ⟨ar3,cr3,rfl⟩:=own_shape11 hown4
     clear hs3 hown3 hg3 hat3 hs5 hrow5 hb6 hb5 B3 bT own5
     go_wp2_with fail
     refine lastC (by kernel_rfl) (by kernel_rfl) ⟨f0,f1,f2⟩ (of_decide_eq_true (by kernel_rfl)) ?_
     refine any_seqI [20] [_] _ _ _ rfl (by kernel_rfl) ?_
     go_wp2_with fail
     refine ⟨⟨k+1,L'++[(s0,s1,.slice a5 nE c5)],by omega,by first | go_num | simp,HL3,HS3,HB3,hown4⟩,by simp [intOf];omega⟩
    ·obtain rfl:np=k:=by omega
     have jq2:¬ (np:Int) < (np:Int):=by omega
     have HFin:∀ W,W=wr→∀ b,b=decide (0 < np)→RingRes 69 w (ringL l) (.returned (.tuple #[.slice ar np cr,.bool b])) W:=by
      rintro W rfl b rfl
      have h9:=HF0.out
      rw [Hnp.out] at h9
      refine ⟨_,L',by rw [h9.2.1],bel_trans HbE.out HBw.out,?_,?_⟩
      ·rw [HL.out];exact own_mono11 hrow HbE.out.size
      ·rw [h9.1]
       have h8:=HS.out
       rw [← Hnp.out,List.take_length] at h8
       exact h8.of
     have HFi:=Lib.hid HFin
     clear HFin hrow
     rcases Nat.eq_zero_or_pos np with h0 | h0
     ·have hz:¬ (0:Int) < (np:Int):=by omega
      clear h0
      go_wp2_with fail
      go_ret2
      exact HFi.out _ rfl _ (by first | exact (decide_eq_false (by omega)).symm | rfl | (simp;omega))
     ·have hz:(0:Int) < (np:Int):=by omega
      go_wp2_with fail
      go_ret2
      exact HFi.out _ rfl _ (by first | exact (decide_eq_true h0).symm | (simp;omega))
end Go.Proofs.YtiihegldhnlleaaGreat
