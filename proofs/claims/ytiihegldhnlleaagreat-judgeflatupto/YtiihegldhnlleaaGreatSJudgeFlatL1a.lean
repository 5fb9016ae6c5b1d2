/-
  Numbers and steps among the arguments, opened: slices of them. A verdict among the arguments, opened. How many steps, and how many edges in them, a slice of ste
-/
import Derived.Test.YtiihegldhnlleaaGreatCL1a
import Derived.Test.YtiihegldhnlleaaGreatSJudgeFlatL0a
import Derived.Test.YtiihegldhnlleaaGreatCShown12
namespace Go.Proofs.YtiihegldhnlleaaGreat
set_option maxRecDepth 100000
open Go.ChangeShapes Go.WideShapes Go.ChangeAt Go.RowKit
set_option linter.unusedVariables false
theorem okS_wf {n:Int} (h:(Lit.int .i64 n).wf=true):okS n:=i64_wf h
theorem shp_arg {H:Type} {enc:TypeId × Value→H} {W:World} {t e:TypeId} (ht:Tryz.prog.underlying t=some (.slice e)) {v:Value} {d:DataW H} {p:List MemPlace} (hv:∃ a n c,v=.slice a n c)
 (h:DataW.Trod enc Tryz.prog W 0 (fun _=>true) true t v d p):Shp v:=by
 obtain ⟨a,n,c,rfl⟩:=hv
 obtain ⟨fuel,hf⟩:=h
 rcases DataW.trod_slice ht (by simpa [Value.cells] using hf) with ⟨hcs,_⟩ | ⟨a',len,cap,_,_,_,_,hcs,_⟩
 ·simp at hcs
  obtain ⟨rfl,rfl,rfl⟩:=hcs
  exact .inl rfl
 ·simp at hcs
  obtain ⟨rfl,rfl,rfl⟩:=hcs
  exact .inr ⟨_,_,_,rfl⟩
theorem ed_elem11 {H:Type} {enc:TypeId × Value→H} {W:World} (n:Nat) (cs':List Value) (d':DataW H) (p':List MemPlace) (hl:cs'.length=5) (h:DataW.trod enc Tryz.prog W 0 (fun _=>true) true n 54 cs'=some (d',p')):∃ x:Ed,cs'=edV x∧True:=by
 have hu:=Tryz.underlying54
 obtain ⟨xs,k,_,hx,hcl,hlen,hel⟩:=DataW.trod_struct hu h
 have hlen':xs.length=5:=hlen
 match xs,hlen',cs',hl with
 | [y0,y1,y2,y3,y4],_,[c0,c1,c2,c3,c4],_ =>
   have k3:Tryz.prog.cellsOf 3=1:=by kernel_rfl
   have g0:=hel 0 _ rfl
   have g1:=hel 1 _ rfl
   have g2:=hel 2 _ rfl
   have g3:=hel 3 _ rfl
   have g4:=hel 4 _ rfl
   simp [k3] at g0 g1 g2 g3 g4
   obtain ⟨n0,e0,rfl,w0⟩:=DataW.trod_int Tryz.underlying3 g0
   obtain ⟨n1,e1,rfl,w1⟩:=DataW.trod_int Tryz.underlying3 g1
   obtain ⟨n2,e2,rfl,w2⟩:=DataW.trod_int Tryz.underlying3 g2
   obtain ⟨n3,e3,rfl,w3⟩:=DataW.trod_int Tryz.underlying3 g3
   obtain ⟨n4,e4,rfl,w4⟩:=DataW.trod_int Tryz.underlying3 g4
   simp at e0 e1 e2 e3 e4
   subst e0 e1 e2 e3 e4
   exact ⟨(n0,n1,n2,n3,n4),rfl,trivial⟩
theorem ed_cells {H:Type} {enc:TypeId × Value→H} {W:World} {m:Nat} {c:Value} {d:DataW H} {p:List MemPlace}
 (hf:DataW.trod enc Tryz.prog W 0 (fun _=>true) true m 26 [c]=some (d,p)) (hw:(DataW.weights Tryz.prog 26 d).all (·≤ reachBytes)=true):∃ L:List Ed,IsEds W c L∧(∀ x∈L,True)∧L.length*40≤reachBytes :=
 rec_cells (sz:=5) (rec:=edV) (fun _=>True) 40 Tryz.underlying26 (by kernel_rfl) (by omega) (by kernel_rfl) (by omega) (fun n cs' d' p' hl h hw'=>ed_elem11 n cs' d' p' hl h) hf hw
theorem st_elem {H:Type} {enc:TypeId × Value→H} {W:World} (n:Nat) (cs':List Value) (d':DataW H) (p':List MemPlace) (hl:cs'.length=3) (h:DataW.trod enc Tryz.prog W 0 (fun _=>true) true n 69 cs'=some (d',p')) (hw:(DataW.weights Tryz.prog 69 d').all (·≤ reachBytes)=true) :
 ∃ x:SVt,cs'=stV x∧okS x.1∧okS x.2.1∧∃ E,IsEds W x.2.2 E∧E.length≤3518437208780:=by
 have hu:=Tryz.underlying69
 obtain ⟨xs,k,_,hx,hcl,hlen,hel⟩:=DataW.trod_struct hu h
 have hlen':xs.length=3:=hlen
 match xs,hlen',cs',hl with
 | [y0,y1,y2],_,[c0,c1,c2],_ =>
   have k3:Tryz.prog.cellsOf 3=1:=by kernel_rfl
   have k4:Tryz.prog.cellsOf 26=1:=by kernel_rfl
   have g0:=hel 0 _ rfl
   have g1:=hel 1 _ rfl
   have g2:=hel 2 _ rfl
   simp [k3,k4] at g0 g1 g2
   obtain ⟨n0,e0,r0,w0⟩:=DataW.trod_int Tryz.underlying3 g0
   obtain ⟨n1,e1,r1,w1⟩:=DataW.trod_int Tryz.underlying3 g1
   simp at e0 e1
   subst e0 e1
   have hd:=congrArg Prod.fst hx
   simp at hd
   subst hd
   simp only [DataW.weights,hu,List.map_cons,List.map_nil] at hw
   have hw2:(DataW.weights Tryz.prog 26 y2.1).all (·≤ reachBytes)=true:=by
    simp only [DataW.weightsEach,List.append_nil,List.all_append,Bool.and_eq_true] at hw
    exact hw.2.2
   obtain ⟨E,hE,_,hEl⟩:=ed_cells (d:=y2.1) (p:=y2.2) g2 hw2
   exact ⟨(n0,n1,c2),rfl,okS_wf w0,okS_wf w1,E,hE,by unfold reachBytes at hEl;omega⟩
theorem st_list {W:World}:∀ (L':List SVt),(∀ x∈L',okS x.1∧okS x.2.1∧∃ E,IsEds W x.2.2 E∧E.length≤3518437208780)→∃ L:List Stp,StOf W L' L∧∀ x∈L,goodSt x
 | [],_=>⟨[],⟨rfl,fun i x s h=>by simp at h⟩,by simp⟩
 | y::L',h=>by
   obtain ⟨L,h1,h2⟩:=st_list L' (fun x hx=>h x (List.mem_cons_of_mem _ hx))
   obtain ⟨g1,g2,E,hE,hEl⟩:=h y (List.mem_cons_self ..)
   refine ⟨(y.1,y.2.1,E)::L,⟨by simp [h1.1],fun i x s hx hs=>?_⟩,fun x hx=>?_⟩
   ·cases i with
    | zero =>
      simp at hx hs
      subst hx hs
      exact ⟨rfl,rfl,hE⟩
    | succ i=>exact h1.2 i x s (by simpa using hx) (by simpa using hs)
   ·rcases List.mem_cons.1 hx with rfl | hx
    ·exact ⟨g1,g2,hEl⟩
    ·exact h2 x hx
theorem st_arg {H:Type} {enc:TypeId × Value→H} {W:World} {v:Value} {d:DataW H} {p:List MemPlace} (hv:∃ a n c,v=.slice a n c)
 (h:DataW.Trod enc Tryz.prog W 0 (fun _=>true) true 38 v d p) (hw:(DataW.weights Tryz.prog 38 d).all (·≤ reachBytes)=true):∃ L:List Stp,IsSts W v L∧Shp v∧(∀ x∈L,goodSt x)∧L.length*40≤reachBytes:=by
 have hs:=shp_arg Tryz.underlying38 hv h
 obtain ⟨a,n,c,rfl⟩:=hv
 obtain ⟨fuel,hf⟩:=h
 obtain ⟨L',h1,h2,h3⟩:=rec_cells (sz:=3) (rec:=stV) (fun x:SVt=>okS x.1∧okS x.2.1∧∃ E,IsEds W x.2.2 E∧E.length≤3518437208780) 40 Tryz.underlying38 (by kernel_rfl) (by omega) (by kernel_rfl) (by omega) (fun n cs' d' p' hl h hw'=>st_elem n cs' d' p' hl h hw') (by simpa [Value.cells] using hf) hw
 obtain ⟨L,g1,g2⟩:=st_list L' h2
 exact ⟨L,⟨L',h1,g1⟩,hs,g2,by rw [← g1.1];exact h3⟩
theorem add12 (b o j:Nat):(⟨b,o,none⟩:Addr).add j=⟨b,o+j,none⟩:=by
 unfold Addr.add
 by_cases h:j=0<;>simp [h]
theorem eds_bulk {H:Type} {enc:TypeId × Value→H} {W:World} {fuel:Nat} {v:Value} {d:DataW H} {p:List MemPlace} {E:List Ed}
 (hf:DataW.trod enc Tryz.prog W 0 (fun _=>true) true fuel 26 [v]=some (d,p)) (hE:IsEds W v E):E.length≤Rows.uptoBulk d:=by
 obtain ⟨a,cap',rfl,_⟩:=hE.some_at
 rcases Go.Deep.open_slice Tryz.underlying26 hf with ⟨hcs,_⟩ | ⟨a',len,cap,mm,n,D,Pl,hcs,_,hl,hm,hmm,hx,hall⟩
 ·simp at hcs;omega
 ·simp at hcs
  have hd:=congrArg Prod.fst hx
  simp only at hd
  subst hd
  have h1:=bulk_all ((List.range len).map D)
  rw [List.length_map,List.length_range] at h1
  rw [Rows.uptoBulk]
  omega
theorem st_bulk1 {H:Type} {enc:TypeId × Value→H} {W:World} {fuel:Nat} {x:SVt} {d:DataW H} {p:List MemPlace} {E:List Ed}
 (h:DataW.trod enc Tryz.prog W 0 (fun _=>true) true fuel 69 (stV x)=some (d,p)) (hE:IsEds W x.2.2 E):E.length+1≤Rows.uptoBulk d:=by
 have hu:=Tryz.underlying69
 obtain ⟨xs,k,_,hx,hcl,hlen,hel⟩:=DataW.trod_struct hu h
 have hlen':xs.length=3:=hlen
 match xs,hlen' with
 | [y0,y1,y2],_ =>
   have k4:Tryz.prog.cellsOf 26=1:=by kernel_rfl
   have g2:=hel 2 _ rfl
   simp [k4,stV] at g2
   have hd:=congrArg Prod.fst hx
   simp at hd
   subst hd
   have:=eds_bulk (d:=y2.1) (p:=y2.2) g2 hE
   simp only [Rows.uptoBulk,Rows.uptoBulkAll]
   omega
theorem bulk_sum {H:Type} (D:Nat→DataW H) (f:Nat→Nat):∀ (n:Nat),(∀ i,i < n→f i≤Rows.uptoBulk (D i))→((List.range n).map f).sum≤Rows.uptoBulkAll ((List.range n).map D):=by
 have g:∀ l:List Nat,(∀ i∈l,f i≤Rows.uptoBulk (D i))→(l.map f).sum≤Rows.uptoBulkAll (l.map D):=by
  intro l
  induction l with
  | nil=>intro _;simp [Rows.uptoBulkAll]
  | cons a l ih =>
    intro h
    have h1:=h a (List.mem_cons_self ..)
    have h2:=ih (fun i hi=>h i (List.mem_cons_of_mem _ hi))
    simp only [List.map_cons,List.sum_cons,Rows.uptoBulkAll]
    omega
 exact fun n h=>g _ (fun i hi=>h i (List.mem_range.1 hi))
theorem sum_len (L:List Stp):((List.range L.length).map fun i=>(L.getD i (0,0,[])).2.2.length+1).sum=(flatL L).length+L.length:=by
 have e:(List.range L.length).map (fun i=>(L.getD i (0,0,[])).2.2.length+1)=L.map (fun s=>s.2.2.length+1):=by
  apply List.ext_getElem
  ·simp
  ·intro i h1 h2
   simp at h1
   simp [List.getD_eq_getElem?_getD,List.getElem?_eq_getElem h1]
 rw [e]
 unfold flatL
 induction L with
 | nil=>rfl
 | cons s L ih =>
   have e2:(List.range L.length).map (fun i=>(L.getD i (0,0,[])).2.2.length+1)=L.map (fun s=>s.2.2.length+1):=by
    apply List.ext_getElem
    ·simp
    ·intro i h1 h2
     simp at h1
     simp [List.getD_eq_getElem?_getD,List.getElem?_eq_getElem h1]
   have:=ih e2
   simp only [List.map_cons,List.sum_cons,List.flatMap_cons,List.length_append,List.length_cons]
   omega
theorem st_bulk {H:Type} {enc:TypeId × Value→H} {W:World} {v:Value} {d:DataW H} {p:List MemPlace}
 (h:DataW.Trod enc Tryz.prog W 0 (fun _=>true) true 38 v d p) {L:List Stp} (hT:IsSts W v L):(flatL L).length+L.length≤Rows.uptoBulk d:=by
 obtain ⟨fuel,hf⟩:=h
 obtain ⟨L',R1,R2⟩:=hT
 obtain ⟨a,cap',rfl,_,_,_,HC⟩:=R1.some_at
 have e:(Value.slice a L'.length cap').cells.toList=[.slice a L'.length cap']:=rfl
 rw [e] at hf
 have k3:Tryz.prog.cellsOf 69=3:=by kernel_rfl
 rcases Go.Deep.open_slice Tryz.underlying38 hf with ⟨hcs,_⟩ | ⟨a',len,cap,mm,n,D,Pl,hcs,_,hl,hm,hmm,hx,hall⟩
 ·simp at hcs
  have h0:L.length=0:=by rw [← R2.1];omega
  rw [List.length_eq_zero_iff.1 h0]
  simp [flatL]
 ·simp at hcs
  obtain ⟨rfl,rfl,rfl⟩:=hcs
  simp only [if_true] at hmm
  have hd:=congrArg Prod.fst hx
  simp only at hd
  subst hd
  have hb:=bulk_sum D (fun i=>(L.getD i (0,0,[])).2.2.length+1) L'.length (fun i hi=>by
   obtain ⟨cs',h1,h2⟩:=hall i (by omega)
   obtain ⟨_,hcl,hce⟩:=World.cells?_some h1
   obtain ⟨b,off,eb,_,hc⟩:=HC.out i hi
   cases eb
   have hcs':cs'=stV L'[i]:=by
    rw [k3] at hcl hce
    apply List.ext_getElem?
    intro j
    rcases Nat.lt_or_ge j 3 with hj | hj
    ·have q:=hce j hj
     rw [add12,add12] at q
     have q2:=hc j _ (List.getElem?_eq_getElem (by rw [stV_len];exact hj))
     rw [q2] at q
     rw [← q,List.getElem?_eq_getElem (by rw [stV_len];exact hj)]
    ·rw [List.getElem?_eq_none (by omega),List.getElem?_eq_none (by rw [stV_len];exact hj)]
   rw [hcs'] at h2
   have hiL:i < L.length:=by rw [← R2.1];exact hi
   have st:=R2.2 i _ _ (List.getElem?_eq_getElem hi) (List.getElem?_eq_getElem hiL)
   have:=st_bulk1 h2 st.eds
   simp only [List.getD_eq_getElem?_getD,List.getElem?_eq_getElem hiL,Option.getD_some]
   exact this)
  rw [R2.1,sum_len] at hb
  rw [Rows.uptoBulk]
  rw [R2.1]
  omega
end Go.Proofs.YtiihegldhnlleaaGreat
namespace Go.Proofs.YtiihegldhnlleaaGreat
set_option maxRecDepth 100000
open Go.RowKit
set_option linter.unusedVariables false
attribute [local go_sem] ba_size
set_option maxHeartbeats 4000000 in
theorem flat12_walk (C:P12C) (w:World) (vl:Value) (l:List Stp) (Tl:IsSts w vl l) (h1:l.length≤1048576) (h2:(flatL l).length≤1048576) :
 Calls Tryz.prog 4 #[vl] w fun e w'=>e=.returned (.bool true)∧Below w.heap.size w w':=by
 have HSh:Hid (∀ W,Below w.heap.size w W→Calls Tryz.prog 10 #[] W fun e w'=>e=.returned (.bool true)∧Below W.heap.size W w'):=fun W h=>shown12_any C W
 have HA:Hid (∀ W,Below w.heap.size w W→Calls Tryz.prog 17 #[vl] W fun e w'=>EdRow 54 W (flatL l) e w'):=fun W hb=>C.flat l vl W (Tl.below hb) h1 h2
 have RA:Hid (∀ W,Below w.heap.size w W→Calls Tryz.prog 18 #[vl] W fun e w'=>EdRow 54 W (flatL l) e w'):=fun W hb=>rflat_any vl l W (Tl.below hb) (by omega)
 have SS:Hid (∀ v1 v2 W,IsEds W v1 (flatL l)→IsEds W v2 (flatL l)→Calls Tryz.prog 16 #[v1,v2] W fun e w'=>e=.returned (.bool true)∧Below W.heap.size W w'):=fun v1 v2 W g1 g2=>(rsamee_any v1 v2 _ _ W g1 g2).mono (fun e w' ⟨a,b⟩=>⟨by rw [a,decide_eq_true rfl],b⟩)
 obtain ⟨al,cl,rfl,il,jl,kl⟩:=Tl.len
 obtain ⟨nl,hnl⟩:∃ nl,l.length=nl:=⟨_,rfl⟩
 rw [hnl] at HA RA ⊢
 clear hnl
 go_enter Tryz.func4,Tryz.ntmps4
 go_wp2_with fail
 refine (HSh.out _ (Below.refl w.heap.size w)).mono ?_
 rintro e w1 ⟨rfl,b1⟩
 have B1:=bel_trans (Below.refl w.heap.size w) b1
 go_wp2_with fail
 refine (HA.out _ B1).mono ?_
 rintro e w2 ⟨u1,rfl,b2,o1⟩
 have B2:=bel_trans B1 b2
 go_wp2_with fail
 refine (RA.out _ B2).mono ?_
 rintro e w3 ⟨u2,rfl,b3,o2⟩
 have B3:=bel_trans B2 b3
 have T1:IsEds w3 u1 (flatL l):=(IsRec.own edV_len (by omega) o1 (by omega)).below b3
 have T2:IsEds w3 u2 (flatL l):=IsRec.own edV_len (by omega) o2 (by omega)
 have D:=SS.out _ _ _ T1 T2
 obtain ⟨g1,c1,rfl⟩:=own_shape13 o1
 obtain ⟨g2,c2,rfl⟩:=own_shape13 o2
 go_wp2_with fail
 refine D.mono ?_
 rintro e w4 ⟨rfl,b4⟩
 go_wp2_with fail
 go_ret
 exact ⟨rfl,bel_trans B3 b4⟩
end Go.Proofs.YtiihegldhnlleaaGreat
