/-
  Lives and numbers in rows; what is found, as a value: of no program but for the types. What is wanted of package edges, as one word. Edges among the arguments,
-/
import Derived.Test.YtkkenfhlgpjmjaaGreatDoorCL0a
import Derived.Lib.Hide
import Derived.Shelf.Slices.CompactI
import Derived.Shelf.Sort.Plain
import Derived.Shelf.Slices.In.SortNone
import Derived.Lib.SlicesCompact
import Derived.Maps.OwnSet
import Derived.Maps.OwnOps
import Derived.Maps.OwnIn
import Derived.Maps.AppendAt
import Derived.Deep.QuietTactic
import Derived.RegionTactic
namespace Go.Proofs.YtkkenfhlgpjmjaaGreatDoor
set_option maxRecDepth 100000
open Go.RowKit
set_option linter.unusedVariables false
abbrev Lf:=Int × Nat × Nat × Bool
def lifV (x:Lf):List Value:=[.int .i64 x.1,.int .i64 (x.2.1:Int),.int .i64 (x.2.2.1:Int),.bool x.2.2.2]
theorem lifV_len (x:Lf):(lifV x).length=4:=rfl
abbrev IsLfs (w:World) (v:Value) (L:List Lf):Prop:=IsRec 4 lifV w v L
abbrev lifA (x:Lf):Value:=.agg #[.int .i64 x.1,.int .i64 (x.2.1:Int),.int .i64 (x.2.2.1:Int),.bool x.2.2.2]
def findP (h:List Ev) (t:Int):Lf × Bool:=match findL h t with
 | none=>((0,0,0,false),false)
 | some x=>(x,true)
theorem lif_info:(Tryz.prog.info? 73).map (fun i=>(i.zero,i.size,i.bytes))=some (some (.agg #[.int .i64 0,.int .i64 0,.int .i64 0,.bool false]),4,32):=by kernel_rfl
theorem size_lif:(Tryz.prog.info? 73).map (·.size)=some 4:=by kernel_rfl
def intV (n:Int):List Value:=[.int .i64 n]
theorem intV_len (n:Int):(intV n).length=1:=rfl
abbrev IsInts (w:World) (v:Value) (L:List Int):Prop:=IsRec 1 intV w v L
theorem int_info:(Tryz.prog.info? 3).map (fun i=>(i.zero,i.size,i.bytes))=some (some (.int .i64 0),1,8):=by kernel_rfl
def LfRow (t:TypeId) (w:World) (L:List Lf) (e:Ending) (w':World):Prop:=∃ v,e=.returned v∧Below w.heap.size w w'∧w'.ownsRow w.heap.size t 4 v L.length (recV lifV L)
def InRow (w:World) (L:List Int) (e:Ending) (w':World):Prop:=∃ v,e=.returned v∧Below w.heap.size w w'∧w'.ownsRow w.heap.size 3 1 v L.length (recV intV L)
theorem findP_of {h:List Ev} {t:Int} {x:Lf} (hx:findL h t=some x):findP h t=(x,true):=by unfold findP;rw [hx]
def okN (t:Int):Prop:=-9223372036854775808≤t∧t≤9223372036854775807
def goodEd (x:Ed):Prop:=okN x.1∧okN x.2.1∧okN x.2.2.1∧okN x.2.2.2.1∧okN x.2.2.2.2
abbrev fewH (h:List Ev):Prop:=(∀ x∈h,0≤x.2.1∧x.2.1≤99)∧h.length≤120
open Go.ChangeShapes Go.WideShapes Go.ChangeAt Go.RowKit
theorem okN_wf {n:Int} (h:(Lit.int .i64 n).wf=true):okN n:=i64_wf h
theorem ed_elem {H:Type} {enc:TypeId × Value→H} {W:World} (n:Nat) (cs':List Value) (d':DataW H) (p':List MemPlace) (hl:cs'.length=5) (h:DataW.trod enc Tryz.prog W 0 (fun _=>true) true n 71 cs'=some (d',p')):∃ x,cs'=edV x∧goodEd x:=by
 have hu:=Tryz.underlying71
 obtain ⟨xs,k,_,hx,hcl,hlen,hel⟩:=DataW.trod_struct hu h
 have hlen':xs.length=5:=hlen
 match xs,hlen',cs',hl with
 | [y0,y1,y2,y3,y4],_,[c0,c1,c2,c3,c4],_ =>
   have k3:Tryz.prog.cellsOf 3=1:=by kernel_rfl
   have g0:=hel 0 _ rfl
   have g1:=hel 1 _ rfl
   have g2:=hel 2 _ rfl
   have g3:=hel 3 _ rfl
   have g4:=hel 4 _ rfl
   simp [k3] at g0 g1 g2 g3 g4
   obtain ⟨n0,e0,rfl,w0⟩:=DataW.trod_int Tryz.underlying3 g0
   obtain ⟨n1,e1,rfl,w1⟩:=DataW.trod_int Tryz.underlying3 g1
   obtain ⟨n2,e2,rfl,w2⟩:=DataW.trod_int Tryz.underlying3 g2
   obtain ⟨n3,e3,rfl,w3⟩:=DataW.trod_int Tryz.underlying3 g3
   obtain ⟨n4,e4,rfl,w4⟩:=DataW.trod_int Tryz.underlying3 g4
   simp at e0 e1 e2 e3 e4
   subst e0 e1 e2 e3 e4
   exact ⟨(n0,n1,n2,n3,n4),rfl,okN_wf w0,okN_wf w1,okN_wf w2,okN_wf w3,okN_wf w4⟩
end Go.Proofs.YtkkenfhlgpjmjaaGreatDoor
namespace Go.Proofs.YtkkenfhlgpjmjaaGreatDoor
set_option maxRecDepth 100000
set_option linter.unusedVariables false
def cmO (y:Lf):Option Int:=if y.2.2.2=true then some y.1 else none
def cmF (L:List Lf):List Int:=L.filterMap cmO
theorem cmF_yes (L:List Lf) (k:Nat) (hk:k < L.length) (h:L[k].2.2.2=true):cmF (L.take (k+1))=cmF (L.take k)++[L[k].1]:=by
 unfold cmF
 rw [List.take_succ_eq_append_getElem hk,List.filterMap_append]
 congr 1
 simp [cmO,h]
theorem cmF_no (L:List Lf) (k:Nat) (hk:k < L.length) (h:L[k].2.2.2=false):cmF (L.take (k+1))=cmF (L.take k):=by
 unfold cmF
 rw [List.take_succ_eq_append_getElem hk,List.filterMap_append]
 rw [show [L[k]].filterMap cmO=[] by rw [List.filterMap_cons];simp [cmO,h]]
 simp
theorem cm_mem (h:List Ev) (t:Int):t∈cmF (livesL h)↔commL h t≠none:=by
 unfold cmF livesL
 rw [List.mem_filterMap]
 constructor
 ·rintro ⟨⟨t',f,e,b⟩,hy,hc⟩
  obtain ⟨i,hi,hh⟩:=List.mem_filterMap.1 hy
  by_cases h0:fstL h (ev h i).2.1 i=none
  ·rw [if_pos h0] at hh
   unfold cmO at hc
   simp only at hc
   cases b with
   | false=>simp at hc
   | true =>
     simp only [if_true,Option.some.injEq] at hc
     obtain ⟨e1,e2⟩:=find_comm h _ 0 f e t' hh
     rw [← hc,e1,e2]
     simp
  ·rw [if_neg h0] at hh;cases hh
 ·intro hc
  cases hq:commL h t with
  | none=>exact absurd hq hc
  | some e =>
    obtain ⟨f,hf⟩:=comm_find h t e hq
    cases hF:fstL h t h.length with
    | none=>exact absurd (comm_has h t hF) hc
    | some i =>
      obtain ⟨i1,i2,i3⟩:=(fstL_some h t _ i).1 hF
      refine ⟨(t,f,e,true),List.mem_filterMap.2 ⟨i,List.mem_range.2 i1,?_⟩,rfl⟩
      rw [i2,if_pos ((fstL_none h t i).2 i3),hf]
theorem cm_nodup (h:List Ev):(cmF (livesL h)).Nodup:=by
 unfold cmF livesL
 rw [List.filterMap_filterMap]
 refine List.Pairwise.filterMap (R:=fun a b:Nat=>a < b) _ ?_ List.pairwise_lt_range
 intro a b hab x hx y hy exy
 have key:∀ i z,(Option.bind (if fstL h (ev h i).2.1 i=none then findL h (ev h i).2.1 else none) cmO)=some z→fstL h (ev h i).2.1 i=none∧(ev h i).2.1=z:=by
  intro i z hz
  by_cases h0:fstL h (ev h i).2.1 i=none
  ·rw [if_pos h0] at hz
   refine ⟨h0,?_⟩
   cases hf:findL h (ev h i).2.1 with
   | none=>rw [hf] at hz;cases hz
   | some q =>
     obtain ⟨t',f,e,b⟩:=q
     rw [hf] at hz
     simp only [Option.bind_some,cmO] at hz
     cases b with
     | false=>simp at hz
     | true =>
       simp only [if_true,Option.some.injEq] at hz
       rw [← hz,(find_comm h _ 0 f e t' hf).1]
  ·rw [if_neg h0] at hz;cases hz
 obtain ⟨a1,a2⟩:=key a x hx
 obtain ⟨b1,b2⟩:=key b y hy
 exact (fstL_none h _ b).1 b1 a hab (by rw [a2,b2,exy])
theorem nd_sorted (h:List Ev) (k:Nat):(ndL h k).Pairwise (fun a b=>a < b):=by
 unfold ndL
 refine List.Pairwise.filterMap (R:=fun a b:Nat=>a < b) _ ?_ List.pairwise_lt_range
 intro a b hab x hx y hy
 unfold ndOf at hx hy
 by_cases h1:commL h ((a:Int) - 1)=none
 ·rw [if_pos h1] at hx;cases hx
 ·by_cases h2:commL h ((b:Int) - 1)=none
  ·rw [if_pos h2] at hy;cases hy
  ·rw [if_neg h1] at hx
   rw [if_neg h2] at hy
   cases hx
   cases hy
   omega
theorem node_sorted (h:List Ev) (hf:∀ x∈h,0≤x.2.1∧x.2.1≤99):((cmF (livesL h)).mergeSort fun x y=>decide (x≤y))=nodeL h:=by
 have nd:(nodeL h).Nodup:=List.Pairwise.imp (fun {a b} hlt e=>by omega) (nd_sorted h 301)
 have pm:(cmF (livesL h)).Perm (nodeL h):=by
  refine (List.perm_ext_iff_of_nodup (cm_nodup h) nd).2 fun t=>?_
  rw [cm_mem]
  unfold nodeL
  rw [nd_mem]
  constructor
  ·intro hc
   refine ⟨?_,hc⟩
   cases hF:fstL h t h.length with
   | none=>exact absurd (comm_has h t hF) hc
   | some i =>
     obtain ⟨i1,i2,i3⟩:=(fstL_some h t _ i).1 hF
     have:=hf h[i] (List.getElem_mem i1)
     rw [← ev_get h i i1,i2] at this
     omega
  ·exact fun hh=>hh.2
 refine List.Perm.eq_of_pairwise (le:=fun x y:Int=>x≤y) (fun a b _ _ h1 h2=>Int.le_antisymm h1 h2) ?_ ?_ ((List.mergeSort_perm _ _).trans pm)
 ·refine (List.pairwise_mergeSort (le:=fun x y:Int=>decide (x≤y)) (fun a b c h1 h2=>?_) (fun a b=>?_) (cmF (livesL h))).imp (fun {a b} hh=>by simpa using hh)
  ·rw [decide_eq_true_eq] at h1 h2 ⊢
   omega
  ·rw [Bool.or_eq_true,decide_eq_true_eq,decide_eq_true_eq]
   omega
 ·exact (nd_sorted h 301).imp (fun {a b} hh=>by omega)
abbrev Vd:=Int × Bool × List Int × (Int × Int × Int) × List Ed
def zV:Vd:=(0,false,[],(0,0,0),[])
open Go.RowKit
abbrev Bd:=Int × Int × Int
def badV (x:Bd):List Value:=[.int .i64 x.1,.int .i64 x.2.1,.int .i64 x.2.2]
abbrev badA (x:Bd):Value:=.agg #[.int .i64 x.1,.int .i64 x.2.1,.int .i64 x.2.2]
theorem size_bad:(Tryz.prog.info? 25).map (·.size)=some 3:=by kernel_rfl
theorem results_row1 {P:Program} {fn:Func} {p:Tmp} {ty:TypeId} (h:fn.results=#[.cell p ty]) (tmps:Array Value) (w:World) (g:Nat) (t:TypeId) (cs:Array Value) (fr:Nat × Nat) (d:TypeDesc)
 (hp:tmps.getD p undef=.pointer (some ⟨g,0,none⟩)) (hg:w.heap[g]?=some (.cells cs t fr))
 (hu:P.underlying ty=some d) (hd:(match d with | .struct _ | .array _ _=>true | _=>false)=true) (hi:(P.info? ty).map (·.size)=some cs.size) :
 (results fn tmps).run P w=.ok (.agg cs) w:=by
 have hp':tmps[p]?.getD undef=.pointer (some ⟨g,0,none⟩):=by simpa using hp
 simp [results,h,hp',asAddr,run_loadVar_row w g t ty cs fr d hg hu hd hi]
theorem SBox.put3 {w:World} {g:Nat} {t:TypeId} {p q r:Value} (h:SBox w g t #[p,q,r]) (a b c:Value):SBox (((w.setCell ⟨g,0,none⟩ a).setCell ⟨g,1,none⟩ b).setCell ⟨g,2,none⟩ c) g t #[a,b,c]:=((h.set 0 a).set 1 b).set 2 c
theorem bel_put3 {B:Nat} {a w:World} (h:Below B a w) {g:Nat} (hg:B≤g) (p q r:Value):Below B a (((w.setCell ⟨g,0,none⟩ p).setCell ⟨g,1,none⟩ q).setCell ⟨g,2,none⟩ r) :=
 ((h.setCell (p:=⟨g,0,none⟩) hg p).setCell (p:=⟨g,1,none⟩) hg q).setCell (p:=⟨g,2,none⟩) hg r
attribute [local go_sem] ba_size
abbrev vdC (v:Vd) (vo vr:Value):Array Value:=#[.int .i64 v.1,.bool v.2.1,vo,.int .i64 v.2.2.2.1.1,.int .i64 v.2.2.2.1.2.1,.int .i64 v.2.2.2.1.2.2,vr]
theorem size_vd:(Tryz.prog.info? 28).map (·.size)=some 7:=by kernel_rfl
def sameV (a b:Vd):Bool:=decide (a.2.2.1=b.2.2.1)&&decide (a.2.2.2.2=b.2.2.2.2)&&decide (a.1=b.1)&&decide (a.2.1=b.2.1)&&(decide (a.2.2.2.1.1=b.2.2.2.1.1)&&decide (a.2.2.2.1.2.1=b.2.2.2.1.2.1)&&decide (a.2.2.2.1.2.2=b.2.2.2.1.2.2))
theorem sameV_iff (a b:Vd):sameV a b=true↔a=b:=by
 obtain ⟨a0,a1,aO,⟨p0,p1,p2⟩,aR⟩:=a
 obtain ⟨b0,b1,bO,⟨q0,q1,q2⟩,bR⟩:=b
 unfold sameV
 simp only [Bool.and_eq_true,decide_eq_true_eq,Prod.mk.injEq]
 constructor
 ·rintro ⟨⟨⟨⟨h3,h7⟩,h1⟩,h2⟩,⟨h4,h5⟩,h6⟩
  exact ⟨h1,h2,h3,⟨h4,h5,h6⟩,h7⟩
 ·rintro ⟨h1,h2,h3,⟨h4,h5,h6⟩,h7⟩
  exact ⟨⟨⟨⟨h3,h7⟩,h1⟩,h2⟩,⟨h4,h5⟩,h6⟩
theorem SBox.put7 {W:World} {B t:Nat} {a b c d e f g:Value} (h:SBox W B t #[a,b,c,d,e,f,g]) (a' b' c' d' e' f' g':Value) :
 SBox (((((((W.setCell ⟨B,0,none⟩ a').setCell ⟨B,1,none⟩ b').setCell ⟨B,2,none⟩ c').setCell ⟨B,3,none⟩ d').setCell ⟨B,4,none⟩ e').setCell ⟨B,5,none⟩ f').setCell ⟨B,6,none⟩ g') B t #[a',b',c',d',e',f',g']:=by
 have h0:SBox (W.setCell ⟨B,0,none⟩ a') B t #[a',b,c,d,e,f,g]:=h.set 0 a'
 generalize W.setCell ⟨B,0,none⟩ a'=W0 at h0 ⊢
 have h1:SBox (W0.setCell ⟨B,1,none⟩ b') B t #[a',b',c,d,e,f,g]:=h0.set 1 b'
 generalize W0.setCell ⟨B,1,none⟩ b'=W1 at h1 ⊢
 have h2:SBox (W1.setCell ⟨B,2,none⟩ c') B t #[a',b',c',d,e,f,g]:=h1.set 2 c'
 generalize W1.setCell ⟨B,2,none⟩ c'=W2 at h2 ⊢
 have h3:SBox (W2.setCell ⟨B,3,none⟩ d') B t #[a',b',c',d',e,f,g]:=h2.set 3 d'
 generalize W2.setCell ⟨B,3,none⟩ d'=W3 at h3 ⊢
 have h4:SBox (W3.setCell ⟨B,4,none⟩ e') B t #[a',b',c',d',e',f,g]:=h3.set 4 e'
 generalize W3.setCell ⟨B,4,none⟩ e'=W4 at h4 ⊢
 have h5:SBox (W4.setCell ⟨B,5,none⟩ f') B t #[a',b',c',d',e',f',g]:=h4.set 5 f'
 generalize W4.setCell ⟨B,5,none⟩ f'=W5 at h5 ⊢
 exact h5.set 6 g'
theorem bel_put7 {n:Nat} {w W:World} {B:Nat} (h:Below n w W) (hb:n≤B) (a' b' c' d' e' f' g':Value) :
 Below n w (((((((W.setCell ⟨B,0,none⟩ a').setCell ⟨B,1,none⟩ b').setCell ⟨B,2,none⟩ c').setCell ⟨B,3,none⟩ d').setCell ⟨B,4,none⟩ e').setCell ⟨B,5,none⟩ f').setCell ⟨B,6,none⟩ g') :=
 ((((((h.setCell (p:=⟨B,0,none⟩) hb _).setCell (p:=⟨B,1,none⟩) hb _).setCell (p:=⟨B,2,none⟩) hb _).setCell (p:=⟨B,3,none⟩) hb _).setCell (p:=⟨B,4,none⟩) hb _).setCell (p:=⟨B,5,none⟩) hb _).setCell (p:=⟨B,6,none⟩) hb _
theorem owns_put7 {W:World} {A e k n B:Nat} {v:Value} {xs:List Value} (h:W.ownsRow A e k v n xs) (hne:some B≠v.ownBlock) (a' b' c' d' e' f' g':Value) :
 (((((((W.setCell ⟨B,0,none⟩ a').setCell ⟨B,1,none⟩ b').setCell ⟨B,2,none⟩ c').setCell ⟨B,3,none⟩ d').setCell ⟨B,4,none⟩ e').setCell ⟨B,5,none⟩ f').setCell ⟨B,6,none⟩ g').ownsRow A e k v n xs :=
 owns_keep7 (g:=B) (j:=6) (owns_keep7 (g:=B) (j:=5) (owns_keep7 (g:=B) (j:=4) (owns_keep7 (g:=B) (j:=3) (owns_keep7 (g:=B) (j:=2) (owns_keep7 (g:=B) (j:=1) (owns_keep7 (g:=B) (j:=0) h a' hne) b' hne) c' hne) d' hne) e' hne) f' hne) g' hne
theorem getD_in {l:List Int} {k:Nat} (hk:k < l.length):l.getD k 0=l[k]:=by rw [List.getD_eq_getElem?_getD,List.getElem?_eq_getElem hk];rfl
def okV (v:Vd):Prop:=okN v.1∧(okN v.2.2.2.1.1∧okN v.2.2.2.1.2.1∧okN v.2.2.2.1.2.2)∧(∀ x∈v.2.2.1,okN x)∧(∀ x∈v.2.2.2.2,goodEd x)∧v.2.2.1.length≤17592186043904
open Go.ChangeShapes Go.WideShapes Go.ChangeAt Go.RowKit
theorem int_elem13 {H:Type} {enc:TypeId × Value→H} {W:World} (n:Nat) (cs':List Value) (d':DataW H) (p':List MemPlace) (hl:cs'.length=1) (h:DataW.trod enc Tryz.prog W 0 (fun _=>true) true n 3 cs'=some (d',p')):∃ x,cs'=intV x∧okN x:=by
 obtain ⟨n0,e0,hx,w0⟩:=DataW.trod_int Tryz.underlying3 h
 exact ⟨n0,by rw [e0];rfl,okN_wf w0⟩
theorem int_cells13 {H:Type} {enc:TypeId × Value→H} {W:World} {m:Nat} {c:Value} {d:DataW H} {p:List MemPlace}
 (hf:DataW.trod enc Tryz.prog W 0 (fun _=>true) true m 23 [c]=some (d,p)) (hw:(DataW.weights Tryz.prog 23 d).all (·≤ reachBytes)=true):∃ L:List Int,IsInts W c L∧(∀ x∈L,okN x)∧L.length*8≤reachBytes :=
 rec_cells (sz:=1) (rec:=intV) okN 8 Tryz.underlying23 (by kernel_rfl) (by omega) (by kernel_rfl) (by omega) (fun n cs' d' p' hl h hw'=>int_elem13 n cs' d' p' hl h) hf hw
theorem ed_cells13o {H:Type} {enc:TypeId × Value→H} {W:World} {m:Nat} {c:Value} {d:DataW H} {p:List MemPlace}
 (hf:DataW.trod enc Tryz.prog W 0 (fun _=>true) true m 26 [c]=some (d,p)) (hw:(DataW.weights Tryz.prog 26 d).all (·≤ reachBytes)=true):∃ L:List Ed,IsEds W c L∧(∀ x∈L,goodEd x)∧L.length*40≤reachBytes :=
 rec_cells (sz:=5) (rec:=edV) goodEd 40 Tryz.underlying26 (by kernel_rfl) (by omega) (by kernel_rfl) (by omega) (fun n cs' d' p' hl h hw'=>ed_elem n cs' d' p' hl h) hf hw
theorem bad_elem13 {H:Type} {enc:TypeId × Value→H} {W:World} (n:Nat) (cs':List Value) (d':DataW H) (p':List MemPlace) (hl:cs'.length=3) (h:DataW.trod enc Tryz.prog W 0 (fun _=>true) true n 25 cs'=some (d',p')):∃ x:Bd,cs'=badV x∧okN x.1∧okN x.2.1∧okN x.2.2:=by
 have hu:=Tryz.underlying25
 obtain ⟨xs,k,_,hx,hcl,hlen,hel⟩:=DataW.trod_struct hu h
 have hlen':xs.length=3:=hlen
 match xs,hlen',cs',hl with
 | [y0,y1,y2],_,[c0,c1,c2],_ =>
   have k3:Tryz.prog.cellsOf 3=1:=by kernel_rfl
   have g0:=hel 0 _ rfl
   have g1:=hel 1 _ rfl
   have g2:=hel 2 _ rfl
   simp [k3] at g0 g1 g2
   obtain ⟨n0,e0,rfl,w0⟩:=DataW.trod_int Tryz.underlying3 g0
   obtain ⟨n1,e1,rfl,w1⟩:=DataW.trod_int Tryz.underlying3 g1
   obtain ⟨n2,e2,rfl,w2⟩:=DataW.trod_int Tryz.underlying3 g2
   simp at e0 e1 e2
   subst e0 e1 e2
   exact ⟨(n0,n1,n2),rfl,okN_wf w0,okN_wf w1,okN_wf w2⟩
theorem vd_elem13 {H:Type} {enc:TypeId × Value→H} {W:World} (n:Nat) (cs':List Value) (d':DataW H) (p':List MemPlace) (hl:cs'.length=7) (h:DataW.trod enc Tryz.prog W 0 (fun _=>true) true n 28 cs'=some (d',p')) (hw:(DataW.weights Tryz.prog 28 d').all (·≤ reachBytes)=true) :
 ∃ (x:Vd) (vo vr:Value),cs'=(vdC x vo vr).toList∧IsInts W vo x.2.2.1∧IsEds W vr x.2.2.2.2∧okV x:=by
 have hu:=Tryz.underlying28
 obtain ⟨xs,k,_,hx,hcl,hlen,hel⟩:=DataW.trod_struct hu h
 have hlen':xs.length=5:=hlen
 match xs,hlen',cs',hl with
 | [y0,y1,y2,y3,y4],_,[c0,c1,c2,c3,c4,c5,c6],_ =>
   have k3:Tryz.prog.cellsOf 3=1:=by kernel_rfl
   have k4:Tryz.prog.cellsOf 4=1:=by kernel_rfl
   have k5:Tryz.prog.cellsOf 23=1:=by kernel_rfl
   have k6:Tryz.prog.cellsOf 25=3:=by kernel_rfl
   have k7:Tryz.prog.cellsOf 26=1:=by kernel_rfl
   have g0:=hel 0 _ rfl
   have g1:=hel 1 _ rfl
   have g2:=hel 2 _ rfl
   have g3:=hel 3 _ rfl
   have g4:=hel 4 _ rfl
   simp [k3,k4,k5,k6,k7] at g0 g1 g2 g3 g4
   have hd:=congrArg Prod.fst hx
   simp at hd
   subst hd
   simp only [DataW.weights,hu,List.map_cons,List.map_nil] at hw
   simp only [DataW.weightsEach,List.append_nil,List.all_append,Bool.and_eq_true] at hw
   obtain ⟨n0,e0,r0,w0⟩:=DataW.trod_int Tryz.underlying3 g0
   obtain ⟨b1,e1,r1⟩:=DataW.trod_bool Tryz.underlying4 g1
   obtain ⟨o,ho,go,lo⟩:=int_cells13 (d:=y2.1) (p:=y2.2) g2 hw.2.2.1
   obtain ⟨⟨b,bq,br⟩,hb,gb⟩:=bad_elem13 _ _ y3.1 y3.2 rfl g3
   obtain ⟨E,hE,gE,_⟩:=ed_cells13o (d:=y4.1) (p:=y4.2) g4 hw.2.2.2.2
   simp at e0 e1
   simp [badV] at hb
   obtain ⟨rfl,rfl,rfl⟩:=hb
   subst e0 e1
   exact ⟨(n0,b1,o,(b,bq,br),E),c2,c6,rfl,ho,hE,okN_wf w0,gb,go,gE,by simp only [reachBytes] at lo;simp only;omega⟩
theorem vd_val13 {H:Type} {enc:TypeId × Value→H} {W:World} {r:Reach} {b0:Nat} {v:Value} {d:DataW H} {p:List MemPlace} (hv:Value.okWide Tryz.prog W r b0 28 v)
 (h:DataW.Trod enc Tryz.prog W 0 (fun _=>true) true 28 v d p) (hw:(DataW.weights Tryz.prog 28 d).all (·≤ reachBytes)=true):∃ (x:Vd) (vo vr:Value),v=.agg (vdC x vo vr)∧IsInts W vo x.2.2.1∧IsEds W vr x.2.2.2.2∧okV x:=by
 obtain ⟨cs,rfl,hsz⟩:=okWide_struct Tryz.underlying28 hv
 obtain ⟨fuel,hf⟩:=h
 have hc:Tryz.prog.cellsOf 28=7:=by kernel_rfl
 obtain ⟨x,vo,vr,hx,h1,h2,h3⟩:=vd_elem13 fuel cs.toList d p (by rw [Array.length_toList,hsz,hc]) (by simpa [Value.cells] using hf) hw
 refine ⟨x,vo,vr,?_,h1,h2,h3⟩
 have:cs=vdC x vo vr:=Array.toList_inj.1 hx
 rw [this]
end Go.Proofs.YtkkenfhlgpjmjaaGreatDoor
namespace Go.Proofs.YtkkenfhlgpjmjaaGreatDoor
set_option maxRecDepth 100000
set_option linter.unusedVariables false
structure Codec (α:Type) where
 ok:α→Prop
 enc:α→List UInt8
 dec:List UInt8→Option (α × List UInt8)
 back:∀ a r,ok a→dec (enc a++r)=some (a,r)
 only:∀ s a r,dec s=some (a,r)→ok a∧enc a++r=s
namespace Codec
def num (most:Nat):Codec Int where
 ok n:=0≤n∧n≤most∧n.toNat < 2 ^ 64
 enc n:=Lm.numL n.toNat
 dec s:=if (Lm.takeNumL s).2.2≠0∨most < (Lm.takeNumL s).1 then none else some (((Lm.takeNumL s).1:Int),(Lm.takeNumL s).2.1)
 back a r h:=by
  rw [Lm.take_num a.toNat h.2.2 r]
  simp only
  rw [if_neg (by omega)]
  simp only [Option.some.injEq,Prod.mk.injEq,and_true]
  omega
 only s a r h:=by
  by_cases hc:(Lm.takeNumL s).2.2≠0∨most < (Lm.takeNumL s).1
  ·rw [if_pos hc] at h;cases h
  ·rw [if_neg hc] at h
   simp only [Option.some.injEq,Prod.mk.injEq] at h
   obtain ⟨rfl,rfl⟩:=h
   have:=Lm.num_take s (Lm.takeNumL s).1 (Lm.takeNumL s).2.1 (by rw [show (0:Nat)=(Lm.takeNumL s).2.2 by omega])
   refine ⟨⟨by omega,by omega,by rw [Int.toNat_natCast];exact this.2⟩,?_⟩
   rw [Int.toNat_natCast]
   exact this.1
def text (most:Nat):Codec (List UInt8) where
 ok t:=t.length≤most∧t.length≤65535
 enc t:=txtE t
 dec s:=if (Lm.takeTextL s most).2.2≠0 then none else some ((Lm.takeTextL s most).1,(Lm.takeTextL s most).2.1)
 back t r h:=by
  have:=Lm.takeText_text t h.2 most (by have:=h.1;omega) r
  unfold txtE
  rw [this]
  rw [if_neg (by simp)]
 only s t r h:=by
  by_cases hc:(Lm.takeTextL s most).2.2≠0
  ·rw [if_pos hc] at h;cases h
  ·rw [if_neg hc] at h
   simp only [Option.some.injEq,Prod.mk.injEq] at h
   obtain ⟨rfl,rfl⟩:=h
   have:=text_take s (Lm.takeTextL s most).1 (Lm.takeTextL s most).2.1 most (by rw [show (0:Nat)=(Lm.takeTextL s most).2.2 by omega])
   exact ⟨⟨by omega,this.2.1⟩,this.1⟩
def pair {α β:Type} (A:Codec α) (B:Codec β):Codec (α × β) where
 ok x:=A.ok x.1∧B.ok x.2
 enc x:=A.enc x.1++B.enc x.2
 dec s:=match A.dec s with
  | none=>none
  | some (a,r)=>match B.dec r with
    | none=>none
    | some (b,q)=>some ((a,b),q)
 back x r h:=by
  rw [List.append_assoc,A.back x.1 _ h.1]
  simp only
  rw [B.back x.2 r h.2]
 only s x r h:=by
  cases ha:A.dec s with
  | none=>rw [ha] at h;cases h
  | some y =>
    obtain ⟨a,q⟩:=y
    rw [ha] at h
    simp only at h
    cases hb:B.dec q with
    | none=>rw [hb] at h;cases h
    | some z =>
      obtain ⟨b,p⟩:=z
      rw [hb] at h
      cases h
      obtain ⟨a1,a2⟩:=A.only s a q ha
      obtain ⟨b1,b2⟩:=B.only q b r hb
      exact ⟨⟨a1,b1⟩,by rw [List.append_assoc,b2,a2]⟩
def encs {α:Type} (A:Codec α):List α→List UInt8
 | []=>[]
 | a::l=>A.enc a++encs A l
def decs {α:Type} (A:Codec α):Nat→List UInt8→Option (List α × List UInt8)
 | 0,s=>some ([],s)
 | n+1,s=>match A.dec s with
   | none=>none
   | some (a,r)=>match decs A n r with
     | none=>none
     | some (l,q)=>some (a::l,q)
theorem decs_back {α:Type} (A:Codec α):∀ (l:List α) (r:List UInt8),(∀ a∈l,A.ok a)→decs A l.length (encs A l++r)=some (l,r)
 | [],r,_=>rfl
 | a::l,r,h=>by
   rw [List.length_cons,decs,encs,List.append_assoc,A.back a _ (h a (List.mem_cons_self ..))]
   simp only
   rw [decs_back A l r (fun x hx=>h x (List.mem_cons_of_mem _ hx))]
theorem decs_only {α:Type} (A:Codec α):∀ (n:Nat) (s:List UInt8) (l:List α) (r:List UInt8),decs A n s=some (l,r)→l.length=n∧(∀ a∈l,A.ok a)∧encs A l++r=s
 | 0,s,l,r,h=>by cases h;exact ⟨rfl,fun a ha=>(by cases ha),rfl⟩
 | n+1,s,l,r,h=>by
   rw [decs] at h
   cases ha:A.dec s with
   | none=>rw [ha] at h;cases h
   | some y =>
     obtain ⟨a,q⟩:=y
     rw [ha] at h
     simp only at h
     cases hb:decs A n q with
     | none=>rw [hb] at h;cases h
     | some z =>
       obtain ⟨l',p⟩:=z
       rw [hb] at h
       cases h
       obtain ⟨i1,i2,i3⟩:=decs_only A n q l' r hb
       obtain ⟨a1,a2⟩:=A.only s a q ha
       refine ⟨by rw [List.length_cons,i1],fun x hx=>?_,by rw [encs,List.append_assoc,i3,a2]⟩
       rcases List.mem_cons.1 hx with rfl | hx
       ·exact a1
       ·exact i2 x hx
def many {α:Type} (A:Codec α) (most:Nat):Codec (List α) where
 ok l:=l.length≤most∧l.length < 2 ^ 64∧∀ a∈l,A.ok a
 enc l:=Lm.numL l.length++encs A l
 dec s:=match (num most).dec s with
  | none=>none
  | some (n,r)=>decs A n.toNat r
 back l r h:=by
  have:=(num most).back (l.length:Int) (encs A l++r) ⟨by omega,by have:=h.1;omega,by rw [Int.toNat_natCast];exact h.2.1⟩
  have e:(num most).enc (l.length:Int)=Lm.numL l.length:=by show Lm.numL ((l.length:Int).toNat)=_;rw [Int.toNat_natCast]
  rw [e] at this
  rw [List.append_assoc,this]
  simp only [Int.toNat_natCast]
  exact decs_back A l r h.2.2
 only s l r h:=by
  cases hn:(num most).dec s with
  | none=>rw [hn] at h;cases h
  | some y =>
    obtain ⟨n,q⟩:=y
    rw [hn] at h
    simp only at h
    obtain ⟨n1,n2⟩:=(num most).only s n q hn
    obtain ⟨l1,l2,l3⟩:=decs_only A n.toNat q l r h
    have n1':0≤n∧n≤most∧n.toNat < 2 ^ 64:=n1
    have n2':Lm.numL n.toNat++q=s:=n2
    refine ⟨⟨by omega,by rw [l1];exact n1'.2.2,l2⟩,?_⟩
    rw [l1,List.append_assoc,l3,n2']
def map {α β:Type} (A:Codec α) (f:α→β) (g:β→α) (hgf:∀ a,A.ok a→g (f a)=a) (hfg:∀ b,f (g b)=b):Codec β where
 ok b:=A.ok (g b)
 enc b:=A.enc (g b)
 dec s:=match A.dec s with
  | none=>none
  | some (a,r)=>some (f a,r)
 back b r h:=by
  rw [A.back (g b) r h]
  simp only [hfg]
 only s b r h:=by
  cases ha:A.dec s with
  | none=>rw [ha] at h;cases h
  | some y =>
    obtain ⟨a,q⟩:=y
    rw [ha] at h
    cases h
    obtain ⟨a1,a2⟩:=A.only s a r ha
    rw [hgf a a1]
    exact ⟨a1,a2⟩
def whole {α:Type} (A:Codec α) (s:List UInt8):Option α :=
 match A.dec s with
 | some (a,[])=>some a
 | _=>none
theorem whole_back {α:Type} (A:Codec α) (a:α) (m:List UInt8) (h:A.ok a):whole A (A.enc a++m)=if m=[] then some a else none:=by
 unfold whole
 rw [A.back a m h]
 cases m with
 | nil=>rfl
 | cons c m=>rfl
theorem whole_only {α:Type} (A:Codec α) (s:List UInt8) (a:α) (h:whole A s=some a):A.ok a∧A.enc a=s:=by
 unfold whole at h
 cases hd:A.dec s with
 | none=>rw [hd] at h;cases h
 | some y =>
   obtain ⟨b,r⟩:=y
   rw [hd] at h
   cases r with
   | cons c r=>cases h
   | nil =>
     cases h
     have:=A.only s a [] hd
     rw [List.append_nil] at this
     exact this
theorem whole_inj {α:Type} (A:Codec α) (a b:α) (ha:A.ok a) (hb:A.ok b) (h:A.enc a=A.enc b):a=b:=by
 have h1:=whole_back A a [] ha
 have h2:=whole_back A b [] hb
 rw [h,h2,if_pos rfl,if_pos rfl] at h1
 exact (Option.some.inj h1).symm
theorem whole_cut {α:Type} (A:Codec α) (a:α) (ha:A.ok a) (c:Nat) (hc:c < (A.enc a).length):whole A ((A.enc a).take c)=none:=by
 cases hy:whole A ((A.enc a).take c) with
 | none=>rfl
 | some b =>
   exfalso
   obtain ⟨b1,b2⟩:=whole_only A _ b hy
   have h1:=whole_back A b ((A.enc a).drop c) b1
   rw [b2,List.take_append_drop] at h1
   have h2:=whole_back A a [] ha
   rw [List.append_nil,if_pos rfl] at h2
   rw [if_neg (by intro h;have:=congrArg List.length h;rw [List.length_drop] at this;simp at this;omega)] at h1
   rw [h1] at h2
   cases h2
end Codec
theorem takeN_only:∀ (n:Nat) (s:List UInt8) (most:Int) (l:List (List UInt8)) (r:List UInt8),Lm.takeN n s most=(l,r,0)→l.length=n∧(∀ t∈l,t.length≤65535∧(t.length:Int)≤most)∧Lm.body l++r=s
 | 0,s,most,l,r,h=>by
   rw [Lm.takeN] at h
   simp only [Prod.mk.injEq] at h
   obtain ⟨rfl,rfl,_⟩:=h
   exact ⟨rfl,fun t ht=>(by cases ht),rfl⟩
 | n+1,s,most,l,r,h=>by
   rw [Lm.takeN] at h
   by_cases h1:(Lm.takeTextL s most).2.2≠0
   ·rw [if_pos h1] at h;simp only [Prod.mk.injEq] at h;exact absurd h.2.2 h1
   ·rw [if_neg h1] at h
    by_cases h2:(Lm.takeN n (Lm.takeTextL s most).2.1 most).2.2≠0
    ·rw [if_pos h2] at h;simp only [Prod.mk.injEq] at h;exact absurd h.2.2 h2
    ·rw [if_neg h2] at h
     simp only [Prod.mk.injEq] at h
     obtain ⟨rfl,rfl,_⟩:=h
     obtain ⟨i1,i2,i3⟩:=takeN_only n (Lm.takeTextL s most).2.1 most (Lm.takeN n (Lm.takeTextL s most).2.1 most).1 (Lm.takeN n (Lm.takeTextL s most).2.1 most).2.1 (by rw [show (0:Nat)=(Lm.takeN n (Lm.takeTextL s most).2.1 most).2.2 by omega])
     have t1:=text_take s (Lm.takeTextL s most).1 (Lm.takeTextL s most).2.1 most (by rw [show (0:Nat)=(Lm.takeTextL s most).2.2 by omega])
     refine ⟨by rw [List.length_cons,i1],fun t ht=>?_,by rw [Lm.body,List.append_assoc,i3];exact t1.1⟩
     rcases List.mem_cons.1 ht with rfl | ht
     ·exact t1.2
     ·exact i2 t ht
theorem takeN_back (most:Int):∀ (l:List (List UInt8)) (r:List UInt8),(∀ t∈l,t.length≤65535∧(t.length:Int)≤most)→Lm.takeN l.length (Lm.body l++r) most=(l,r,0)
 | [],r,_=>rfl
 | t::l,r,h=>by
   have h1:=h t (List.mem_cons_self ..)
   have h2:=takeN_back most l r (fun x hx=>h x (List.mem_cons_of_mem _ hx))
   have h3:=Lm.takeText_text t h1.1 most h1.2 (Lm.body l++r)
   rw [List.length_cons,Lm.takeN,Lm.body,List.append_assoc,h3]
   simp [h2]
theorem takeLen_only (s:List UInt8) (many:Int) (n:Nat) (r:List UInt8) (h:Lm.takeLenL s many=(n,r,0)):Lm.lenL n++r=s∧n≤65535∧(n:Int)≤many:=by
 unfold Lm.takeLenL at h
 by_cases h1:(Lm.sizeL s).2.2≠0
 ·rw [if_pos h1] at h;simp only [Prod.mk.injEq] at h;exact absurd h.2.2 h1
 ·rw [if_neg h1] at h
  by_cases h2:many < (Lm.sizeL s).1
  ·rw [if_pos h2] at h;simp at h
  ·rw [if_neg h2] at h
   have:=size_take s n r h
   rw [h] at h2
   exact ⟨this.1,this.2,by simp only at h2;omega⟩
namespace Codec
def row (many most:Nat):Codec (List (List UInt8)) where
 ok l:=l.length≤many∧l.length≤65535∧∀ t∈l,t.length≤65535∧t.length≤most
 enc l:=Lm.lenL l.length++Lm.body l
 dec s:=if (Lm.takeRowL s many most).2.2≠0 then none else some ((Lm.takeRowL s many most).1,(Lm.takeRowL s many most).2.1)
 back l r h:=by
  have e:Lm.takeRowL (Lm.lenL l.length++Lm.body l++r) many most=(l,r,0):=by
   unfold Lm.takeRowL
   rw [List.append_assoc,Lm.takeLen_len l.length h.2.1 many (by have:=h.1;omega)]
   simp only
   rw [if_neg (by simp)]
   exact takeN_back most l r (fun t ht=>by have:=h.2.2 t ht;omega)
  rw [e]
  rw [if_neg (by simp)]
 only s l r h:=by
  by_cases hc:(Lm.takeRowL s many most).2.2≠0
  ·rw [if_pos hc] at h;cases h
  ·rw [if_neg hc] at h
   simp only [Option.some.injEq,Prod.mk.injEq] at h
   obtain ⟨h1,h2⟩:=h
   unfold Lm.takeRowL at hc h1 h2
   by_cases hl:(Lm.takeLenL s many).2.2≠0
   ·rw [if_pos hl] at hc;exact absurd hl (by simpa using hc)
   ·rw [if_neg hl] at hc h1 h2
    have a:=takeLen_only s many (Lm.takeLenL s many).1 (Lm.takeLenL s many).2.1 (by rw [show (0:Nat)=(Lm.takeLenL s many).2.2 by omega])
    obtain ⟨b1,b2,b3⟩:=takeN_only (Lm.takeLenL s many).1 (Lm.takeLenL s many).2.1 most l r (by rw [← h1,← h2,show (0:Nat)=(Lm.takeN (Lm.takeLenL s many).1 (Lm.takeLenL s many).2.1 most).2.2 by omega])
    refine ⟨⟨by omega,by omega,fun t ht=>by have:=b2 t ht;omega⟩,?_⟩
    rw [b1,List.append_assoc,b3]
    exact a.1
def event:Codec Ev where
 ok x:=mayE x
 enc x:=txtE (bytE x)
 dec s:=match (text 65535).dec s with
  | none=>none
  | some (t,r)=>match takeE t with
    | none=>none
    | some x=>some (x,r)
 back x r h:=by
  have hl:(bytE x).length≤65535:=by
   unfold bytE
   by_cases hk:keyedE x.1
   ·rw [if_pos hk]
    have h5:=h.2
    rw [if_pos hk] at h5
    have a:=Lm.lenL_le x.2.2.1.length
    have b:=Lm.lenL_le x.2.2.2.length
    unfold txtE
    simp only [List.length_cons,List.length_append]
    omega
   ·rw [if_neg hk];simp
  have h1:=(text 65535).back (bytE x) r ⟨hl,hl⟩
  have h1':(text 65535).dec (txtE (bytE x)++r)=some (bytE x,r):=h1
  rw [h1']
  simp only
  have h2:=take_byt x h []
  rw [List.append_nil,if_pos rfl] at h2
  rw [h2]
 only s x r h:=by
  cases ht:(text 65535).dec s with
  | none=>rw [ht] at h;cases h
  | some y =>
    obtain ⟨t,q⟩:=y
    rw [ht] at h
    simp only at h
    cases hx:takeE t with
    | none=>rw [hx] at h;cases h
    | some z =>
      rw [hx] at h
      cases h
      obtain ⟨a1,a2⟩:=(text 65535).only s t r ht
      obtain ⟨b1,b2⟩:=byt_take t x hx
      have a2':txtE t++r=s:=a2
      exact ⟨b1,by rw [b2];exact a2'⟩
end Codec
end Go.Proofs.YtkkenfhlgpjmjaaGreatDoor
namespace Go.Proofs.YtkkenfhlgpjmjaaGreatDoor
set_option maxRecDepth 100000
set_option linter.unusedVariables false
abbrev Pf:=Int × Ev × List (List UInt8)
abbrev Ct:=List UInt8 × Int × List UInt8 × List UInt8 × Int × Vd × List Pf
def zCt:Ct:=([],0,[],[],0,zV,[])
def wrI (h:List Ev) (i:Int):Option Nat:=if 0≤i∧i < (h.length:Int)∧(ev h i.toNat).2.2.2≠[] then writerL h (ev h i.toNat).2.2.1 (ev h i.toNat).2.2.2 else none
def wrT (h:List Ev) (i:Int):Bool:=decide (0≤i∧i < (h.length:Int)∧(ev h i.toNat).2.2.2≠[])
def plE (h:List Ev) (e:Ed):List Int:=[e.2.2.2.1,e.2.2.2.2]++(if e.1=3 then (match wrI h e.2.2.2.1 with | some w=>[(w:Int)] | none=>[]) else [])
def enE (h:List Ev) (e:Ed):List Int:=[e.2.1,e.2.2.1]++(if e.1=3 then (match wrI h e.2.2.2.1 with | some w=>[tx h w] | none=>[]) else [])
def plB (h:List Ev) (b:Int × Int × Int):List Int:=[b.2.1,b.2.2]++(if wrT h b.2.1=true then [oI (writerL h (ev h b.2.1.toNat).2.2.1 (ev h b.2.1.toNat).2.2.2)] else [])
def inT (h:List Ev) (i:Int):Option Int:=if 0≤i∧i < (h.length:Int) then some (tx h i.toNat) else none
def enB (h:List Ev) (b:Int × Int × Int):List Int:=(plB h b).filterMap (inT h)
def plW (h:List Ev) (v:Vd):List Int:=if v.2.2.2.1.1≠0 then plB h v.2.2.2.1 else v.2.2.2.2.flatMap (plE h)
def enW (h:List Ev) (v:Vd):List Int:=if v.2.2.2.1.1≠0 then enB h v.2.2.2.1 else v.2.2.2.2.flatMap (enE h)
def endsAt (h:List Ev) (t n:Int):Bool:=match findL h t with
 | some y=>decide ((y.2.2.1:Int)=n)
 | none=>false
def wantB (h:List Ev) (v:Vd) (n:Int):Bool:=!v.2.1&&(decide (n∈plW h v) || (enW h v).any (fun t=>endsAt h t n))
def needN (h:List Ev) (v:Vd):List Nat:=(List.range h.length).filter fun n=>wantB h v (n:Int)
theorem need_sorted (h:List Ev) (v:Vd):(needN h v).Pairwise (·< ·):=List.Pairwise.filter _ List.pairwise_lt_range
theorem need_in (h:List Ev) (v:Vd) (n:Nat) (hn:n∈needN h v):n < h.length:=List.mem_range.1 (List.mem_filter.1 hn).1
theorem need_len (h:List Ev) (v:Vd):(needN h v).length≤h.length:=by
 unfold needN
 exact Nat.le_trans (List.length_filter_le _ _) (by rw [List.length_range];exact Nat.le_refl _)
theorem need_yes (h:List Ev) (v:Vd) (hv:v.2.1=true):needN h v=[]:=by
 unfold needN
 rw [List.filter_eq_nil_iff]
 intro n _
 unfold wantB
 rw [hv]
 simp
theorem need_place (h:List Ev) (v:Vd) (hv:v.2.1=false) (n:Nat) (hn:n < h.length) (hp:(n:Int)∈plW h v):n∈needN h v:=by
 refine List.mem_filter.2 ⟨List.mem_range.2 hn,?_⟩
 unfold wantB
 rw [hv,decide_eq_true hp]
 rfl
theorem need_end (h:List Ev) (v:Vd) (hv:v.2.1=false) (n:Nat) (hn:n < h.length) (t:Int) (ht:t∈enW h v) (he:endsAt h t (n:Int)=true):n∈needN h v:=by
 refine List.mem_filter.2 ⟨List.mem_range.2 hn,?_⟩
 unfold wantB
 rw [hv,List.any_eq_true.2 ⟨t,ht,he⟩]
 simp
theorem need_edge (h:List Ev) (v:Vd) (hv:v.2.1=false) (hb:v.2.2.2.1.1=0) (e:Ed) (he:e∈v.2.2.2.2) (n:Nat) (hn:n < h.length) (hw:e.2.2.2.1=(n:Int)∨e.2.2.2.2=(n:Int)∨endsAt h e.2.1 (n:Int)=true∨endsAt h e.2.2.1 (n:Int)=true):n∈needN h v:=by
 have hp:∀ x,x∈plE h e→x∈plW h v:=fun x hx=>by unfold plW;rw [if_neg (by simpa using hb)];exact List.mem_flatMap.2 ⟨e,he,hx⟩
 have hq:∀ x,x∈enE h e→x∈enW h v:=fun x hx=>by unfold enW;rw [if_neg (by simpa using hb)];exact List.mem_flatMap.2 ⟨e,he,hx⟩
 rcases hw with h1 | h1 | h1 | h1
 ·exact need_place h v hv n hn (hp _ (by unfold plE;rw [h1];simp))
 ·exact need_place h v hv n hn (hp _ (by unfold plE;rw [h1];simp))
 ·exact need_end h v hv n hn _ (hq _ (by unfold enE;simp)) h1
 ·exact need_end h v hv n hn _ (hq _ (by unfold enE;simp)) h1
abbrev plM (i:Int):Prop:=0≤i∧i≤255
abbrev txM (n:Int):Prop:=1≤n∧n≤32
abbrev edM (e:Ed):Prop:=(1≤e.1∧e.1≤3)∧(txM e.2.1∧txM e.2.2.1)∧plM e.2.2.2.1∧plM e.2.2.2.2
abbrev pfM (p:Pf):Prop:=(plM p.1∧mayE p.2.1)∧p.2.2.length≤12∧∀ t∈p.2.2,t.length=32
abbrev vdM (v:Vd):Prop:=((1≤v.1∧v.1≤2)∧v.2.2.1.length≤32∧(0≤v.2.2.2.1.1∧v.2.2.2.1.1≤4)∧(plM v.2.2.2.1.2.1∧plM v.2.2.2.1.2.2)∧v.2.2.2.2.length≤128)∧(∀ n∈v.2.2.1,txM n)∧∀ e∈v.2.2.2.2,edM e
abbrev mayC (c:Ct):Prop:=((1≤c.1.length∧c.1.length≤16)∧(1≤c.2.1∧c.2.1≤1048576)∧(c.2.2.1.length=0∨c.2.2.1.length=32)∧c.2.2.2.1.length=32∧0≤c.2.2.2.2.1∧c.2.2.2.2.1≤256)∧vdM c.2.2.2.2.2.1∧c.2.2.2.2.2.2.length≤256∧∀ p∈c.2.2.2.2.2.2,pfM p
def nb14 (n:Int):List UInt8:=Lm.numL n.toNat
def edY (e:Ed):List UInt8:=nb14 e.1++nb14 e.2.1++nb14 e.2.2.1++nb14 e.2.2.2.1++nb14 e.2.2.2.2
def pfY (p:Pf):List UInt8:=nb14 p.1++txtE (bytE p.2.1)++(Lm.lenL p.2.2.length++Lm.body p.2.2)
def bytC (c:Ct):List UInt8 :=
 txtE c.1++nb14 c.2.1++txtE c.2.2.1++txtE c.2.2.2.1++nb14 c.2.2.2.2.1++nb14 c.2.2.2.2.2.1.1++nb14 (if c.2.2.2.2.2.1.2.1=true then 1 else 0)++nb14 (c.2.2.2.2.2.1.2.2.1.length:Int)++c.2.2.2.2.2.1.2.2.1.flatMap nb14 ++
 nb14 c.2.2.2.2.2.1.2.2.2.1.1++nb14 c.2.2.2.2.2.1.2.2.2.1.2.1++nb14 c.2.2.2.2.2.1.2.2.2.1.2.2++nb14 (c.2.2.2.2.2.1.2.2.2.2.length:Int)++c.2.2.2.2.2.1.2.2.2.2.flatMap edY ++
 nb14 (c.2.2.2.2.2.2.length:Int)++c.2.2.2.2.2.2.flatMap pfY
def bytesC (c:Ct):List UInt8 × Int:=if mayC c then (bytC c,0) else ([],1)
namespace Codec
def n20:Codec Int:=num 1048576
def edK:Codec Ed:=pair n20 (pair n20 (pair n20 (pair n20 n20)))
def pfK:Codec Pf:=pair n20 (pair event (row 12 32))
abbrev CtP:=List UInt8 × Int × List UInt8 × List UInt8 × Int × Int × Int × List Int × (Int × Int × Int) × List Ed × List Pf
def ctP:Codec CtP:=pair (text 16) (pair n20 (pair (text 32) (pair (text 32) (pair n20 (pair n20 (pair (num 1) (pair (many n20 32) (pair (pair n20 (pair n20 n20)) (pair (many edK 128) (many pfK 256))))))))))
def toCt (x:CtP):Ct:=(x.1,x.2.1,x.2.2.1,x.2.2.2.1,x.2.2.2.2.1,(x.2.2.2.2.2.1,decide (x.2.2.2.2.2.2.1=1),x.2.2.2.2.2.2.2.1,x.2.2.2.2.2.2.2.2.1,x.2.2.2.2.2.2.2.2.2.1),x.2.2.2.2.2.2.2.2.2.2)
def ofCt (c:Ct):CtP:=(c.1,c.2.1,c.2.2.1,c.2.2.2.1,c.2.2.2.2.1,c.2.2.2.2.2.1.1,(if c.2.2.2.2.2.1.2.1=true then 1 else 0),c.2.2.2.2.2.1.2.2.1,c.2.2.2.2.2.1.2.2.2.1,c.2.2.2.2.2.1.2.2.2.2,c.2.2.2.2.2.2)
def ctK:Codec Ct:=map ctP toCt ofCt
 (fun x h=>by
  obtain ⟨a,b,c,d,e,f,g,o,k,r,p⟩:=x
  have hg:0≤g∧g≤1:=by
   have:=h.2.2.2.2.2.2.1
   have h1:0≤g∧g≤(1:Nat)∧g.toNat < 2 ^ 64:=this
   omega
  unfold ofCt toCt
  simp only [Prod.mk.injEq,true_and,and_true,decide_eq_true_eq]
  by_cases h1:g=1
  ·rw [if_pos h1,h1]
  ·rw [if_neg h1];omega)
 (fun c=>by
  obtain ⟨a,b,p,d,e,⟨f,g,o,k,r⟩,q⟩:=c
  unfold ofCt toCt
  simp only [Prod.mk.injEq,true_and,and_true]
  cases g<;>simp)
end Codec
theorem encs_flat {α:Type} (A:Codec α) (f:α→List UInt8) (hf:∀ a,A.enc a=f a):∀ l:List α,Codec.encs A l=l.flatMap f
 | []=>rfl
 | a::l=>by rw [Codec.encs,List.flatMap_cons,hf a,encs_flat A f hf l]
theorem ct_enc (c:Ct):Codec.ctK.enc c=bytC c:=by
 obtain ⟨a,b,p,d,e,⟨f,g,o,⟨k0,k1,k2⟩,r⟩,q⟩:=c
 have h1:∀ l:List Int,Codec.encs Codec.n20 l=l.flatMap nb14:=encs_flat _ _ (fun _=>rfl)
 have h2:∀ l:List Ed,Codec.encs Codec.edK l=l.flatMap edY:=encs_flat _ _ (fun x=>by
  obtain ⟨x0,x1,x2,x3,x4⟩:=x
  show nb14 x0++(nb14 x1++(nb14 x2++(nb14 x3++nb14 x4)))=_
  unfold edY
  simp only [List.append_assoc])
 have h3:∀ l:List Pf,Codec.encs Codec.pfK l=l.flatMap pfY:=encs_flat _ _ (fun x=>by
  obtain ⟨x0,x1,x2⟩:=x
  show nb14 x0++(txtE (bytE x1)++(Lm.lenL x2.length++Lm.body x2))=_
  unfold pfY
  simp only [List.append_assoc])
 have hn:∀ n:Nat,nb14 (n:Int)=Lm.numL n:=fun n=>by unfold nb14;rw [Int.toNat_natCast]
 show txtE a++(nb14 b++(txtE p++(txtE d++(nb14 e++(nb14 f++(nb14 (if g=true then 1 else 0)++((Lm.numL o.length++Codec.encs Codec.n20 o)++((nb14 k0++(nb14 k1++nb14 k2))++((Lm.numL r.length++Codec.encs Codec.edK r)++(Lm.numL q.length++Codec.encs Codec.pfK q))))))))))=_
 unfold bytC
 simp only [h1,h2,h3,hn,List.append_assoc]
theorem may_ok (c:Ct) (hc:mayC c):Codec.ctK.ok c:=by
 obtain ⟨a,b,p,d,e,⟨f,g,o,⟨k0,k1,k2⟩,r⟩,q⟩:=c
 obtain ⟨⟨a1,a2,a3,a4,a5,a6⟩,⟨⟨v1,v2,v3,⟨v4,v5⟩,v6⟩,v7,v8⟩,p1,p2⟩:=hc
 simp only at a1 a2 a3 a4 a5 a6 v1 v2 v3 v4 v5 v6 v7 v8 p1 p2
 have n:∀ x:Int,0≤x→x≤1048576→Codec.n20.ok x:=fun x h1 h2=>⟨h1,by show x≤((1048576:Nat):Int);omega,by show x.toNat < 2 ^ 64;omega⟩
 refine ⟨⟨a1.2,by show a.length≤65535;omega⟩,n b (by omega) (by omega),⟨by show p.length≤32;omega,by show p.length≤65535;omega⟩,⟨by show d.length≤32;omega,by show d.length≤65535;omega⟩,n e a5 (by omega),n f (by omega) (by omega),?_,⟨v2,by show o.length < 2 ^ 64;omega,fun x hx=>?_⟩,⟨n k0 (by omega) (by omega),n k1 (by omega) (by omega),n k2 (by omega) (by omega)⟩,⟨v6,by show r.length < 2 ^ 64;omega,fun x hx=>?_⟩,p1,by show q.length < 2 ^ 64;omega,fun x hx=>?_⟩
 ·show 0≤(if g=true then (1:Int) else 0)∧(if g=true then (1:Int) else 0)≤((1:Nat):Int)∧(if g=true then (1:Int) else 0).toNat < 2 ^ 64
  cases g<;>decide
 ·have:=v7 x hx;exact n x (by omega) (by omega)
 ·obtain ⟨⟨e1,e2⟩,⟨⟨e3,e4⟩,e5,e6⟩,⟨e7,e8⟩,e9,e10⟩:=v8 x hx
  exact ⟨n _ (by omega) (by omega),n _ (by omega) (by omega),n _ (by omega) (by omega),n _ (by omega) (by omega),n _ (by omega) (by omega)⟩
 ·obtain ⟨⟨⟨e1,e2⟩,e3⟩,e4,e5⟩:=p2 x hx
  refine ⟨n _ e1 (by omega),e3,e4,by show x.2.2.length≤65535;omega,fun t ht=>?_⟩
  have:=e5 t ht
  omega
def takeC14 (s:List UInt8):Option Ct:=match Codec.whole Codec.ctK s with
 | some c=>if mayC c then some c else none
 | none=>none
theorem take14_back (c:Ct) (hc:mayC c):takeC14 (bytC c)=some c:=by
 unfold takeC14
 have:=Codec.whole_back Codec.ctK c [] (may_ok c hc)
 rw [List.append_nil,if_pos rfl,ct_enc] at this
 rw [this]
 simp only
 rw [if_pos hc]
theorem take14_more (c:Ct) (hc:mayC c) (m:List UInt8) (hm:m≠[]):takeC14 (bytC c++m)=none:=by
 unfold takeC14
 have:=Codec.whole_back Codec.ctK c m (may_ok c hc)
 rw [if_neg hm,ct_enc] at this
 rw [this]
theorem take14_cut (c:Ct) (hc:mayC c) (k:Nat) (hk:k < (bytC c).length):takeC14 ((bytC c).take k)=none:=by
 unfold takeC14
 have:=Codec.whole_cut Codec.ctK c (may_ok c hc) k (by rw [ct_enc];exact hk)
 rw [ct_enc] at this
 rw [this]
theorem take14_only (s:List UInt8) (c:Ct) (h:takeC14 s=some c):mayC c∧bytC c=s:=by
 unfold takeC14 at h
 cases hw:Codec.whole Codec.ctK s with
 | none=>rw [hw] at h;cases h
 | some d =>
   rw [hw] at h
   simp only at h
   by_cases hm:mayC d
   ·rw [if_pos hm] at h
    cases h
    have:=Codec.whole_only Codec.ctK s c hw
    rw [ct_enc] at this
    exact ⟨hm,this.2⟩
   ·rw [if_neg hm] at h;cases h
theorem byt14_inj (a b:Ct) (ha:mayC a) (hb:mayC b) (h:bytC a=bytC b):a=b:=by
 rw [← ct_enc,← ct_enc] at h
 exact Codec.whole_inj Codec.ctK a b (may_ok a ha) (may_ok b hb) h
end Go.Proofs.YtkkenfhlgpjmjaaGreatDoor
namespace Go.Proofs.YtkkenfhlgpjmjaaGreatDoor
set_option maxRecDepth 100000
open Go.RowKit
set_option linter.unusedVariables false
attribute [local go_sem] ba_size
abbrev PVt:=Int × Ev × Value
def pfV (x:PVt):List Value:=[.int .i64 x.1,.int .i64 x.2.1.1,.int .i64 x.2.1.2.1,.string ⟨x.2.1.2.2.1.toArray⟩,.string ⟨x.2.1.2.2.2.toArray⟩,x.2.2]
theorem pfV_len (x:PVt):(pfV x).length=6:=rfl
theorem pf_info:(Tryz.prog.info? 66).map (fun i=>(i.zero,i.size,i.bytes))=some (some (.agg #[.int .i64 0,.int .i64 0,.int .i64 0,.string ByteArray.empty,.string ByteArray.empty,.slice none 0 0]),6,80):=by kernel_rfl
structure PfAt (W:World) (x:PVt) (p:Pf):Prop where
 at_:x.1=p.1
 ev_:x.2.1=p.2.1
 path:IsTxt W x.2.2 p.2.2
def PfOf (W:World) (L':List PVt) (L:List Pf):Prop:=L'.length=L.length∧∀ (i:Nat) x s,L'[i]?=some x→L[i]?=some s→PfAt W x s
def IsPfs (W:World) (v:Value) (L:List Pf):Prop:=∃ L',IsRec 6 pfV W v L'∧PfOf W L' L
theorem PfOf.below {W W':World} {L':List PVt} {L:List Pf} (h:PfOf W L' L) (hb:Below W.heap.size W W'):PfOf W' L' L :=
 ⟨h.1,fun i x s hx hs=>⟨(h.2 i x s hx hs).at_,(h.2 i x s hx hs).ev_,(h.2 i x s hx hs).path.below hb⟩⟩
theorem PfOf.nil (W:World):PfOf W [] []:=⟨rfl,fun i x s h=>by simp at h⟩
theorem IsPfs.below {W W':World} {v:Value} {L:List Pf} (h:IsPfs W v L) (hb:Below W.heap.size W W'):IsPfs W' v L:=by
 obtain ⟨L',h1,h2⟩:=h
 exact ⟨L',h1.below hb,h2.below hb⟩
theorem IsPfs.nil (W:World):IsPfs W (.slice none 0 0) []:=⟨[],IsRec.nil _ _ _,PfOf.nil W⟩
theorem IsPfs.len {W:World} {v:Value} {L:List Pf} (h:IsPfs W v L):∃ a cap,v=.slice a L.length cap∧L.length≤cap∧cap≤9223372036854775807∧L.length≤140737488351232:=by
 obtain ⟨L',h1,h2⟩:=h
 obtain ⟨a,cap,rfl,a1,a2,a3,_⟩:=h1.some_at
 rw [h2.1] at a1 a3 ⊢
 exact ⟨a,cap,rfl,a1,a2,a3⟩
theorem IsPfs.reads {W:World} {v:Value} {L:List Pf} (h:IsPfs W v L):∃ a cap,v=.slice a L.length cap∧L.length≤cap∧cap≤9223372036854775807∧L.length≤140737488351232 ∧
 Hid (∀ k (hk:k < L.length),∃ b off,a=some ⟨b,off,none⟩∧∃ u,IsTxt W u L[k].2.2∧∀ V,Below W.heap.size W V→V.cell? ⟨b,off+k*6,none⟩=some (.int .i64 L[k].1)∧V.cell? ⟨b,off+k*6+1,none⟩=some (.int .i64 L[k].2.1.1)∧V.cell? ⟨b,off+k*6+2,none⟩=some (.int .i64 L[k].2.1.2.1)∧V.cell? ⟨b,off+k*6+3,none⟩=some (.string ⟨L[k].2.1.2.2.1.toArray⟩)∧V.cell? ⟨b,off+k*6+4,none⟩=some (.string ⟨L[k].2.1.2.2.2.toArray⟩)∧V.cell? ⟨b,off+k*6+5,none⟩=some u):=by
 obtain ⟨L',h1,h2⟩:=h
 obtain ⟨a,cap,rfl,a1,a2,a3,HC⟩:=h1.some_at
 have hl:=h2.1
 rw [hl] at a1 a3
 refine ⟨a,cap,by rw [hl],a1,a2,a3,?_⟩
 intro k hk
 have hk':k < L'.length:=by omega
 obtain ⟨b,off,rfl,hlt,hc⟩:=HC.out k hk'
 have g:=h2.2 k _ _ (List.getElem?_eq_getElem hk') (List.getElem?_eq_getElem hk)
 refine ⟨b,off,rfl,L'[k].2.2,g.path,fun V hV=>?_⟩
 rw [← g.at_,← g.ev_]
 exact ⟨(hV.cell (p:=⟨b,off+k*6,none⟩) hlt).trans (hc 0 _ rfl),(hV.cell (p:=⟨b,off+k*6+1,none⟩) hlt).trans (hc 1 _ rfl),(hV.cell (p:=⟨b,off+k*6+2,none⟩) hlt).trans (hc 2 _ rfl),(hV.cell (p:=⟨b,off+k*6+3,none⟩) hlt).trans (hc 3 _ rfl),(hV.cell (p:=⟨b,off+k*6+4,none⟩) hlt).trans (hc 4 _ rfl),(hV.cell (p:=⟨b,off+k*6+5,none⟩) hlt).trans (hc 5 _ rfl)⟩
abbrev ctC (c:Ct) (vo vr vp:Value):Array Value:=#[.string ⟨c.1.toArray⟩,.int .i64 c.2.1,.string ⟨c.2.2.1.toArray⟩,.string ⟨c.2.2.2.1.toArray⟩,.int .i64 c.2.2.2.2.1,.int .i64 c.2.2.2.2.2.1.1,.bool c.2.2.2.2.2.1.2.1,vo,.int .i64 c.2.2.2.2.2.1.2.2.2.1.1,.int .i64 c.2.2.2.2.2.1.2.2.2.1.2.1,.int .i64 c.2.2.2.2.2.1.2.2.2.1.2.2,vr,vp]
theorem size_ct:(Tryz.prog.info? 35).map (·.size)=some 13:=by kernel_rfl
structure CtAt (W:World) (c:Ct) (vo vr vp:Value):Prop where
 order:IsInts W vo c.2.2.2.2.2.1.2.2.1
 ring:IsEds W vr c.2.2.2.2.2.1.2.2.2.2
 proofs:IsPfs W vp c.2.2.2.2.2.2
theorem CtAt.below {W W':World} {c:Ct} {vo vr vp:Value} (h:CtAt W c vo vr vp) (hb:Below W.heap.size W W'):CtAt W' c vo vr vp:=⟨h.order.below hb,h.ring.below hb,h.proofs.below hb⟩
def CtRes (w:World) (r:Ct × Int) (e:Ending) (w':World):Prop:=∃ vo vr vp,e=.returned (.tuple #[.agg (ctC r.1 vo vr vp),.int .i64 r.2])∧Below w.heap.size w w'∧CtAt w' r.1 vo vr vp
def sh14:List Ev:=[(1,1,[],[]),(3,1,[97],[120]),(4,1,[],[])]
def MkRes (w:World) (e:Ending) (w':World):Prop:=∃ (c:Ct) (vo vr vp:Value),e=.returned (.tuple #[.agg (ctC c vo vr vp),.int .i64 0])∧Below w.heap.size w w'∧CtAt w' c vo vr vp∧c.2.2.2.2.2.1.2.1=true∧c.2.2.2.2.2.2=[]∧c.2.2.2.2.1=3∧c.2.2.2.1.length=32
def takeR14 (s:List UInt8):Ct × Int:=match takeC14 s with
 | some c=>(c,0)
 | none=>(zCt,3)
structure P14C:Prop where
 make:∀ (w:World) (vh:Value),G w→IsEvs w vh sh14→Calls Tryz.prog 12 #[.string ⟨#[116]⟩,.int .i64 1,.string ⟨#[]⟩,.string ⟨#[115]⟩,vh,.int .i64 1] w fun e w'=>MkRes w e w'
 needs:∀ (h:List Ev) (v:Vd) (vh vo vr:Value) (w:World),IsEvs w vh h→(∀ x∈h,goodE x)→IsInts w vo v.2.2.1→IsEds w vr v.2.2.2.2→h.length≤100000→v.2.2.2.2.length≤100000→Calls Tryz.prog 16 #[vh,.agg (vdC v vo vr)] w fun e w'=>InRow w ((needN h v).map Int.ofNat) e w'
 may:∀ (c:Ct) (vo vr vp:Value) (w:World),CtAt w c vo vr vp→Calls Tryz.prog 22 #[.agg (ctC c vo vr vp)] w fun e w'=>e=.returned (.bool (decide (mayC c)))∧Below w.heap.size w w'
 bytes:∀ (c:Ct) (vo vr vp:Value) (w:World),CtAt w c vo vr vp→Calls Tryz.prog 18 #[.agg (ctC c vo vr vp)] w fun e w'=>e=.returned (.tuple #[.string ⟨(bytesC c).1.toArray⟩,.int .i64 (bytesC c).2])∧Below w.heap.size w w'
 take:∀ (s:List UInt8) (w:World),s.length≤140737488351232→Calls Tryz.prog 20 #[.string ⟨s.toArray⟩] w fun e w'=>CtRes w (takeR14 s) e w'
theorem own_lit14 (w:World) (e n:Nat) (L:List Ev) (hn:L.length=n) (hs:n≤1000):(w.alloc (.cells (recV evV L).toArray e)).ownsRow w.heap.size e 4 (.slice (some ⟨w.heap.size,0,none⟩) n n) n (recV evV L) :=
 ⟨by rw [recV_length evV_len,hn],.inr ⟨w.heap.size,n,_,rfl,Nat.le_refl _,SBox.new w e _,Nat.le_refl _,by unfold maxLen;omega,by rw [List.size_toArray,recV_length evV_len,hn],by rw [List.toList_toArray,List.take_of_length_le (by rw [recV_length evV_len,hn];exact Nat.le_refl _)]⟩⟩
set_option maxHeartbeats 4000000 in
theorem shown14_any (C:P14C) (w:World) (hG:G w):Calls Tryz.prog 10 #[] w fun e w'=>e=.returned (.bool true)∧Below w.heap.size w w':=by
 have O1:(w.alloc (.cells #[.int .i64 1,.int .i64 1,.string ⟨#[]⟩,.string ⟨#[]⟩,.int .i64 3,.int .i64 1,.string ⟨#[97]⟩,.string ⟨#[120]⟩,.int .i64 4,.int .i64 1,.string ⟨#[]⟩,.string ⟨#[]⟩] 64)).ownsRow w.heap.size 64 4 (.slice (some ⟨w.heap.size,0,none⟩) 3 3) 3 (recV evV sh14):=own_lit14 w 64 3 sh14 rfl (by omega)
 have T1:IsEvs (w.alloc (.cells #[.int .i64 1,.int .i64 1,.string ⟨#[]⟩,.string ⟨#[]⟩,.int .i64 3,.int .i64 1,.string ⟨#[97]⟩,.string ⟨#[120]⟩,.int .i64 4,.int .i64 1,.string ⟨#[]⟩,.string ⟨#[]⟩] 64)) (.slice (some ⟨w.heap.size,0,none⟩) 3 3) sh14:=IsRec.own (L:=sh14) evV_len (by omega) O1 (by decide)
 have B1:=(Below.refl w.heap.size w).alloc (Nat.le_refl _) (.cells #[.int .i64 1,.int .i64 1,.string ⟨#[]⟩,.string ⟨#[]⟩,.int .i64 3,.int .i64 1,.string ⟨#[97]⟩,.string ⟨#[120]⟩,.int .i64 4,.int .i64 1,.string ⟨#[]⟩,.string ⟨#[]⟩] 64)
 have K1:=C.make _ _ (hG.below B1 hG.size) T1
 clear O1 T1 hG
 go_enter Tryz.func10,Tryz.ntmps10
 go_wp2_with fail
 refine K1.mono ?_
 rintro e w2 ⟨c,vo,vr,vp,rfl,b2,hC,ha,hp,hc,hr⟩
 obtain ⟨ap,cp,rfl,_⟩:=hC.proofs.len
 obtain ⟨ao,co,rfl,_⟩:=hC.order.some_at
 obtain ⟨ar,cr,rfl,_⟩:=hC.ring.some_at
 obtain ⟨t,sq,pv,rt,ct,⟨lv,ac,o,⟨k0,k1,k2⟩,g⟩,q⟩:=c
 simp only at ha hp hc hr
 subst ha hp hc
 have B2:=bel_trans B1 b2
 simp only [List.length_nil]
 have X:=SBox.new w2 35 (ctC (t,sq,pv,rt,3,(lv,true,o,(k0,k1,k2),g),[]) (.slice ao o.length co) (.slice ar g.length cr) (.slice ap 0 cp))
 have B3:=B2.alloc B2.size (.cells (ctC (t,sq,pv,rt,3,(lv,true,o,(k0,k1,k2),g),[]) (.slice ao o.length co) (.slice ar g.length cr) (.slice ap 0 cp)) 35)
 have c3:=X.cell 3 _ rfl
 have c4:=X.cell 4 _ rfl
 have c6:=X.cell 6 _ rfl
 have c12:=X.cell 12 _ rfl
 have e32:((rt.length:Int)==32)=true:=by rw [hr];rfl
 have HB:=Lib.hid B3
 clear hC K1 B1 B2 B3 b2
 go_wp2_with fail
 go_ret
 exact ⟨rfl,HB.out⟩
theorem few14_any (v:Value) (h:List Ev) (w:World) (hT:IsEvs w v h):Calls Tryz.prog 11 #[v] w fun e w'=>e=.returned (.bool (decide (h.length≤60)))∧w'=w:=by
 obtain ⟨a,cap,rfl,h1,h2,h3,HC⟩:=hT.reads
 obtain ⟨n,hn⟩:∃ n,h.length=n:=⟨_,rfl⟩
 rw [hn] at h1 h3 ⊢
 clear hT hn HC
 by_cases d:n≤60
 ·have j:(n:Int)≤60:=by omega
  rw [decide_eq_true d]
  go_enter Tryz.func11,Tryz.ntmps11
  go_wp2_with fail
  go_ret
  exact ⟨rfl,rfl⟩
 ·have j:¬ (n:Int)≤60:=by omega
  rw [decide_eq_false d]
  go_enter Tryz.func11,Tryz.ntmps11
  go_wp2_with fail
  go_ret
  exact ⟨rfl,rfl⟩
theorem insK_len (k:List UInt8):∀ K:List (List UInt8),(insK k K).length≤K.length+1
 | []=>by rw [insK];simp
 | x::K=>by
   rw [insK]
   by_cases h1:lessB x k=true
   ·rw [if_pos h1];have:=insK_len k K;simp only [List.length_cons];omega
   ·rw [if_neg h1]
    by_cases h2:x=k
    ·rw [if_pos h2];simp
    ·rw [if_neg h2];simp
theorem lives_len (h:List Ev):(livesL h).length≤h.length:=by
 unfold livesL
 have:=List.length_filterMap_le (fun i=>if fstL h (ev h i).2.1 i=none then findL h (ev h i).2.1 else none) (List.range h.length)
 rw [List.length_range] at this
 exact this
theorem keysF_len:∀ (l:List Ev) (acc:List (List UInt8)),(keysF acc l).length≤acc.length+l.length
 | [],acc=>by rw [keysF];simp
 | x::l,acc=>by
   rw [keysF]
   have h1:=keysF_len l (if keyedE x.1 then insK x.2.2.1 acc else acc)
   have h2:(if keyedE x.1 then insK x.2.2.1 acc else acc).length≤acc.length+1:=by
    by_cases hk:keyedE x.1
    ·rw [if_pos hk];exact insK_len _ _
    ·rw [if_neg hk];omega
   simp only [List.length_cons]
   omega
theorem keys_len (h:List Ev):(keysL h).length≤h.length:=by
 have:=keysF_len h []
 simpa [keysL] using this
theorem getD_at {α:Type} (l:List α) (d:α) (j:Nat) (h:j < l.length):l.getD j d=l[j]:=by rw [List.getD_eq_getElem?_getD,List.getElem?_eq_getElem h,Option.getD_some]
theorem IsInts.reads {w:World} {v:Value} {L:List Int} (hT:IsInts w v L):∃ a cap,v=.slice a L.length cap∧L.length≤cap∧cap≤9223372036854775807∧L.length≤140737488351232 ∧
 Hid (0 < L.length→∃ b off,a=some ⟨b,off,none⟩∧Hid (∀ j,j < L.length→∀ V,Below w.heap.size w V→V.cell? ⟨b,off+j,none⟩=some (.int .i64 (L.getD j 0)))):=by
 obtain ⟨a,cap,rfl,h1,h2,h3,HC⟩:=hT.some_at
 refine ⟨a,cap,rfl,h1,h2,h3,?_⟩
 intro h0
 obtain ⟨b,off,rfl,hlt,_⟩:=HC.out 0 h0
 refine ⟨b,off,rfl,?_⟩
 intro j hj V hV
 obtain ⟨b',off',hbo,_,hc⟩:=HC.out j hj
 obtain ⟨rfl,rfl⟩:b=b'∧off=off':=by simpa using hbo
 have:=hc 0 (.int .i64 L[j]) rfl
 rw [getD_at L 0 j hj]
 refine (hV.cell (p:=⟨b,off+j,none⟩) hlt).trans ?_
 simpa using this
open Go.Shelf
def lays20I_ren:Go.Shelf.Ren:=⟨fun | 20=>253 | n=>n,fun | 22=>23 | 0=>0 | 3=>3 | 4=>4 | n=>n,fun | n=>n⟩
theorem lays20I:Go.Proofs.Lays2.n20 Tryz.prog lays20I_ren:={
 mixed:=by kernel_rfl
 f20:=Tryz.func253.trans (congrArg some (by kernel_rfl))
 t0:=Tryz.underlying0
 a0:=Tryz.isAgg0
 z0:=Tryz.sizeOf0
 v0:=Tryz.zeroValue0
 t3:=Tryz.underlying3
 a3:=Tryz.isAgg3
 z3:=Tryz.sizeOf3
 v3:=Tryz.zeroValue3
 t4:=Tryz.underlying4
 a4:=Tryz.isAgg4
 z4:=Tryz.sizeOf4
 v4:=Tryz.zeroValue4
 t22:=Tryz.underlying23
 a22:=Tryz.isAgg23
 z22:=Tryz.sizeOf23
 v22:=Tryz.zeroValue23
 i3:=by kernel_rfl }
theorem pcompI_any (blk off cap:Nat) (zs:List Int) (w:World) (hH:Go.Sort.Holds (Value.int .i64) w blk off zs.toArray) (hsz:zs.length≤9223372036854775807) (hcap:zs.length≤cap) :
 Calls Tryz.prog 253 #[.slice (some ⟨blk,off,none⟩) zs.length cap] w fun e w'=>e=.returned (.slice (some ⟨blk,off,none⟩) (Lib.compact zs).length cap)∧∃ q,w'=Go.Sort.putRow (Value.int .i64) (Sort.ahead w q) blk off (Lib.compact zs++List.replicate (zs.length - (Lib.compact zs).length) 0).toArray :=
 Any.slices_Compact_int lays20I blk off cap zs w hH hsz hcap
theorem pcompI_none (a:Option Addr) (cap:Nat) (w:World):Calls Tryz.prog 253 #[.slice a 0 cap] w fun e w'=>e=.returned (.slice a 0 cap)∧w'=w :=
 Any.slices_Compact_int_empty lays20I a cap w
def lays189I_ren:Go.Shelf.Ren:=⟨fun | 189=>172 | 125=>222 | 257=>233 | 128=>263 | 129=>264 | 294=>270 | 295=>271 | 296=>272 | 297=>273 | 298=>274 | 299=>275 | 216=>276 | 300=>277 | 301=>278 | 328=>290 | 329=>291 | 330=>292 | 331=>293 | 332=>294 | 215=>295 | 343=>306 | n=>n,fun | 28=>23 | 9=>9 | 3=>3 | 46=>277 | 0=>0 | 51=>193 | 53=>177 | 4=>4 | 183=>329 | 182=>328 | 131=>252 | 5=>5 | 218=>345 | 222=>349 | 228=>356 | 229=>147 | n=>n,fun | n=>n⟩
theorem lays189I:Go.Proofs.Lays.n189 Tryz.prog lays189I_ren:={
 mixed:=by kernel_rfl
 f125:=Tryz.func222.trans (congrArg some (by kernel_rfl))
 f128:=Tryz.func263.trans (congrArg some (by kernel_rfl))
 f129:=Tryz.func264.trans (congrArg some (by kernel_rfl))
 f189:=Tryz.func172.trans (congrArg some (by kernel_rfl))
 f257:=Tryz.func233.trans (congrArg some (by kernel_rfl))
 f294:=Tryz.func270.trans (congrArg some (by kernel_rfl))
 f295:=Tryz.func271.trans (congrArg some (by kernel_rfl))
 f296:=Tryz.func272.trans (congrArg some (by kernel_rfl))
 f297:=Tryz.func273.trans (congrArg some (by kernel_rfl))
 f298:=Tryz.func274.trans (congrArg some (by kernel_rfl))
 f299:=Tryz.func275.trans (congrArg some (by kernel_rfl))
 f216:=Tryz.func276.trans (congrArg some (by kernel_rfl))
 f300:=Tryz.func277.trans (congrArg some (by kernel_rfl))
 f301:=Tryz.func278.trans (congrArg some (by kernel_rfl))
 f329:=Tryz.func291.trans (congrArg some (by kernel_rfl))
 f330:=Tryz.func292.trans (congrArg some (by kernel_rfl))
 f328:=Tryz.func290.trans (congrArg some (by kernel_rfl))
 f331:=Tryz.func293.trans (congrArg some (by kernel_rfl))
 f332:=Tryz.func294.trans (congrArg some (by kernel_rfl))
 f215:=Tryz.func295.trans (congrArg some (by kernel_rfl))
 f343:=Tryz.func306.trans (congrArg some (by kernel_rfl))
 t0:=Tryz.underlying0
 a0:=Tryz.isAgg0
 z0:=Tryz.sizeOf0
 v0:=Tryz.zeroValue0
 t3:=Tryz.underlying3
 a3:=Tryz.isAgg3
 z3:=Tryz.sizeOf3
 v3:=Tryz.zeroValue3
 t4:=Tryz.underlying4
 a4:=Tryz.isAgg4
 z4:=Tryz.sizeOf4
 v4:=Tryz.zeroValue4
 t5:=Tryz.underlying5
 a5:=Tryz.isAgg5
 z5:=Tryz.sizeOf5
 v5:=Tryz.zeroValue5
 t9:=Tryz.underlying9
 a9:=Tryz.isAgg9
 z9:=Tryz.sizeOf9
 v9:=Tryz.zeroValue9
 t28:=Tryz.underlying23
 a28:=Tryz.isAgg23
 z28:=Tryz.sizeOf23
 v28:=Tryz.zeroValue23
 t46:=Tryz.underlying277
 a46:=Tryz.isAgg277
 z46:=Tryz.sizeOf277
 v46:=Tryz.zeroValue277
 t51:=Tryz.underlying193
 a51:=Tryz.isAgg193
 z51:=Tryz.sizeOf193
 v51:=Tryz.zeroValue193
 t53:=Tryz.underlying177
 a53:=Tryz.isAgg177
 z53:=Tryz.sizeOf177
 v53:=Tryz.zeroValue177
 t131:=Tryz.underlying252
 a131:=Tryz.isAgg252
 z131:=Tryz.sizeOf252
 v131:=Tryz.zeroValue252
 t182:=Tryz.underlying328
 a182:=Tryz.isAgg328
 z182:=Tryz.sizeOf328
 v182:=Tryz.zeroValue328
 t183:=Tryz.underlying329
 a183:=Tryz.isAgg329
 z183:=Tryz.sizeOf329
 v183:=Tryz.zeroValue329
 t218:=Tryz.underlying345
 a218:=Tryz.isAgg345
 z218:=Tryz.sizeOf345
 v218:=Tryz.zeroValue345
 t222:=Tryz.underlying349
 a222:=Tryz.isAgg349
 z222:=Tryz.sizeOf349
 v222:=Tryz.zeroValue349
 t228:=Tryz.underlying356
 a228:=Tryz.isAgg356
 z228:=Tryz.sizeOf356
 v228:=Tryz.zeroValue356
 t229:=Tryz.underlying147
 a229:=Tryz.isAgg147
 z229:=Tryz.sizeOf147
 v229:=Tryz.zeroValue147 }
theorem psortI_any (blk off cap:Nat) (ss:List Int) (w:World) (hH:Go.Sort.Holds (Value.int .i64) w blk off ss.toArray) (hblk:blk < w.heap.size) (hsz:ss.length < 4611686018427387904) :
 Calls Tryz.prog 172 #[.slice (some ⟨blk,off,none⟩) ss.length cap] w fun e w' =>
  e=.returned (.tuple #[])∧∃ n os,w'=Go.Sort.grow (Go.Sort.putRow (Value.int .i64) (Go.Sort.ahead w n) blk off (ss.mergeSort fun x y=>decide (x≤y)).toArray) os :=
 Any.slices_Sort_int lays189I blk off cap ss w hH hblk hsz
theorem psortI_none (p:Option Addr) (cap:Nat) (w:World):Calls Tryz.prog 172 #[.slice p 0 cap] w fun e w'=>e=.returned (.tuple #[])∧w'=w :=
 Any.slices_Sort_int_none lays189I p cap w
end Go.Proofs.YtkkenfhlgpjmjaaGreatDoor
namespace Go.Proofs.YtkkenfhlgpjmjaaGreatDoor
set_option maxRecDepth 100000
set_option linter.unusedVariables false
abbrev Cnt:=Int→Option (Int × Int)
def updC (c:Cnt) (x:Int) (p:Int × Int):Cnt:=fun u=>if u=x then some p else c u
end Go.Proofs.YtkkenfhlgpjmjaaGreatDoor
namespace Go.Proofs.YtkkenfhlgpjmjaaGreatDoor
set_option maxRecDepth 100000
open Go.RowKit Go.Maps
set_option linter.unusedVariables false
theorem grown_below8 {a b:World} (x:Option Nat) (h:Below a.heap.size a b):a.grownBy b x:=⟨h.os,h.tape,h.output,h.size,fun i hi _=>h.block i hi⟩
theorem law8i:Keyed Tryz.prog 3:=int_keyed Tryz.underlying3
theorem law8s:Keyed Tryz.prog 9:=string_keyed Tryz.underlying9
theorem zero8i (w:World):(zeroValue 3).run Tryz.prog w=.ok (.int .i64 0) w:=by kernel_rfl
abbrev I64 (t:Int):Prop:=-9223372036854775808≤t∧t≤9223372036854775807
theorem key8i {t:Int} (ht:I64 t):keyOf Tryz.prog 3 (.int .i64 t)=some (.int .i64 t):=keyOf_int_mk Tryz.underlying3 (WalkArith.wf_i64 ht)
theorem key8s {t:List UInt8} (ht:t.length≤9223372036854775807):keyOf Tryz.prog 9 (.string ⟨t.toArray⟩)=some (.string t):=by
 have:=Go.WideMaps.keyOf_string_mk (P:=Tryz.prog) (k:=9) (s:=⟨t.toArray⟩) Tryz.underlying9 (by rw [ba_size];unfold maxLen;omega)
 simpa using this
def IMap (W:World) (b n:Nat) (f:Int→Option Int):Prop :=
 ∃ D:DataW Unit,W.ownsMap Tryz.prog 3 (plainElem Tryz.prog 3) b n D∧∀ t:Int,Maps.has D (.int .i64 t)=(f t).isSome∧∀ k,f t=some k→D.atKey (.int .i64 t) (.lit (.int .i64 0))=.lit (.int .i64 k)
def ISet (W:World) (b n:Nat) (p:Int→Bool):Prop :=
 ∃ D:DataW Unit,W.ownsMap Tryz.prog 3 unitElem b n D∧∀ t:Int,Maps.has D (.int .i64 t)=p t
def TSet (W:World) (b n:Nat) (p:List UInt8→Bool):Prop :=
 ∃ D:DataW Unit,W.ownsMap Tryz.prog 9 unitElem b n D∧∀ t:List UInt8,Maps.has D (.string t)=p t
section
variable {W W':World} {b n m B:Nat} {row:Option Nat}
theorem IMap.kept {f:Int→Option Int} (h:IMap W b n f) (hg:W.grownBy W' row) (hne:some b≠row):IMap W' b n f:=by
 obtain ⟨D,h1,h2⟩:=h;exact ⟨D,h1.kept hg hne,h2⟩
theorem ISet.kept {p:Int→Bool} (h:ISet W b n p) (hg:W.grownBy W' row) (hne:some b≠row):ISet W' b n p:=by
 obtain ⟨D,h1,h2⟩:=h;exact ⟨D,h1.kept hg hne,h2⟩
theorem TSet.kept {p:List UInt8→Bool} (h:TSet W b n p) (hg:W.grownBy W' row) (hne:some b≠row):TSet W' b n p:=by
 obtain ⟨D,h1,h2⟩:=h;exact ⟨D,h1.kept hg hne,h2⟩
theorem IMap.same {f:Int→Option Int} (h:IMap W b n f) (hb:W'.heap[b]?=W.heap[b]?):IMap W' b n f:=by
 obtain ⟨D,⟨es,clock,h1,h2⟩,h3⟩:=h;exact ⟨D,⟨es,clock,hb.trans h1,h2⟩,h3⟩
theorem ISet.same {p:Int→Bool} (h:ISet W b n p) (hb:W'.heap[b]?=W.heap[b]?):ISet W' b n p:=by
 obtain ⟨D,⟨es,clock,h1,h2⟩,h3⟩:=h;exact ⟨D,⟨es,clock,hb.trans h1,h2⟩,h3⟩
theorem TSet.same {p:List UInt8→Bool} (h:TSet W b n p) (hb:W'.heap[b]?=W.heap[b]?):TSet W' b n p:=by
 obtain ⟨D,⟨es,clock,h1,h2⟩,h3⟩:=h;exact ⟨D,⟨es,clock,hb.trans h1,h2⟩,h3⟩
theorem ISet.bel {p:Int→Bool} (h:ISet W b n p) (hb:Below B W W') (hlt:b < B):ISet W' b n p:=h.same (hb.block b hlt)
theorem IMap.mono {f:Int→Option Int} (h:IMap W b n f) (hn:n≤m):IMap W b m f:=by obtain ⟨D,h1,h2⟩:=h;exact ⟨D,h1.mono hn,h2⟩
theorem ISet.mono {p:Int→Bool} (h:ISet W b n p) (hn:n≤m):ISet W b m p:=by obtain ⟨D,h1,h2⟩:=h;exact ⟨D,h1.mono hn,h2⟩
theorem TSet.mono {p:List UInt8→Bool} (h:TSet W b n p) (hn:n≤m):TSet W b m p:=by obtain ⟨D,h1,h2⟩:=h;exact ⟨D,h1.mono hn,h2⟩
theorem IMap.made (w:World):IMap (w.alloc (.map #[] 0)) w.heap.size 0 (fun _=>none):=⟨.map [],World.ownsMap_made w _ _ _,fun t=>⟨rfl,fun k h=>by cases h⟩⟩
theorem ISet.made (w:World):ISet (w.alloc (.map #[] 0)) w.heap.size 0 (fun _=>false):=⟨.map [],World.ownsMap_made w _ _ _,fun t=>rfl⟩
theorem TSet.made (w:World):TSet (w.alloc (.map #[] 0)) w.heap.size 0 (fun _=>false):=⟨.map [],World.ownsMap_made w _ _ _,fun t=>rfl⟩
def updI (f:Int→Option Int) (t k:Int):Int→Option Int:=fun u=>if u=t then some k else f u
theorem IMap.put {f:Int→Option Int} {D:DataW Unit} (hd:∀ t:Int,Maps.has D (.int .i64 t)=(f t).isSome∧∀ k,f t=some k→D.atKey (.int .i64 t) (.lit (.int .i64 0))=.lit (.int .i64 k)) (hm:IsMap D) (t k:Int)
 (h:W.ownsMap Tryz.prog 3 (plainElem Tryz.prog 3) b n (D.put (.int .i64 t) (.lit (.int .i64 k)))):IMap W b n (updI f t k):=by
 refine ⟨_,h,fun u=>?_⟩
 unfold updI
 by_cases hu:u=t
 ·subst hu
  rw [if_pos rfl]
  refine ⟨?_,fun c hc=>?_⟩
  ·rw [has_put_same hm (show WideAt.IsKeyLit (.int .i64 u) from trivial)];rfl
  ·rw [atKey_put_same hm (show WideAt.IsKeyLit (.int .i64 u) from trivial)]
   simp at hc
   rw [hc]
 ·rw [if_neg hu]
  have hne:(Lit.int .i64 u)≠Lit.int .i64 t:=fun h=>hu (by cases h;rfl)
  refine ⟨?_,fun c hc=>?_⟩
  ·rw [has_put_other hne];exact (hd u).1
  ·rw [atKey_put_other hne];exact (hd u).2 c hc
theorem ISet.put {p:Int→Bool} {D:DataW Unit} (hd:∀ t:Int,Maps.has D (.int .i64 t)=p t) (hm:IsMap D) (t:Int) (h:W.ownsMap Tryz.prog 3 unitElem b n (D.put (.int .i64 t) (.agg []))):ISet W b n (fun u=>p u || decide (t=u)):=by
 refine ⟨_,h,fun u=>?_⟩
 by_cases hu:u=t
 ·subst hu
  rw [has_put_same hm (show WideAt.IsKeyLit (.int .i64 u) from trivial)]
  simp
 ·have hne:(Lit.int .i64 u)≠Lit.int .i64 t:=fun h=>hu (by cases h;rfl)
  rw [has_put_other hne,hd u]
  show p u=(p u || decide (t=u))
  rw [decide_eq_false (fun e:t=u=>hu e.symm),Bool.or_false]
theorem TSet.put {p:List UInt8→Bool} {D:DataW Unit} (hd:∀ t:List UInt8,Maps.has D (.string t)=p t) (hm:IsMap D) (t:List UInt8) (h:W.ownsMap Tryz.prog 9 unitElem b n (D.put (.string t) (.agg []))):TSet W b n (fun u=>p u || decide (t=u)):=by
 refine ⟨_,h,fun u=>?_⟩
 by_cases hu:u=t
 ·subst hu
  rw [has_put_same hm (show WideAt.IsKeyLit (.string u) from trivial)]
  simp
 ·have hne:(Lit.string u)≠Lit.string t:=fun h=>hu (by cases h;rfl)
  rw [has_put_other hne,hd u]
  show p u=(p u || decide (t=u))
  rw [decide_eq_false (fun e:t=u=>hu e.symm),Bool.or_false]
end
end Go.Proofs.YtkkenfhlgpjmjaaGreatDoor
namespace Go.Proofs.YtkkenfhlgpjmjaaGreatDoor
set_option maxRecDepth 100000
open Go.RowKit Go.Maps
set_option linter.unusedVariables false
def rawE (v:Value):Option (DataW Value × List MemPlace):=some (.held v,[])
def VMap (W:World) (b n:Nat) (f:Int→Option Value):Prop :=
 ∃ D:DataW Value,W.ownsMap Tryz.prog 3 rawE b n D∧∀ t:Int,Maps.has D (.int .i64 t)=(f t).isSome∧∀ z,D.atKey (.int .i64 t) z=match f t with
   | none=>z
   | some v=>.held v
def updV (f:Int→Option Value) (t:Int) (v:Value):Int→Option Value:=fun u=>if u=t then some v else f u
def delV (f:Int→Option Value) (t:Int):Int→Option Value:=fun u=>if u=t then none else f u
section
variable {W W':World} {b n m B:Nat} {row:Option Nat} {f:Int→Option Value}
theorem VMap.same (h:VMap W b n f) (hb:W'.heap[b]?=W.heap[b]?):VMap W' b n f:=by
 obtain ⟨D,⟨es,clock,h1,h2⟩,h3⟩:=h;exact ⟨D,⟨es,clock,hb.trans h1,h2⟩,h3⟩
theorem VMap.lt (h:VMap W b n f):b < W.heap.size:=by obtain ⟨D,h1,h2⟩:=h;exact h1.lt
theorem VMap.kept (h:VMap W b n f) (hg:W.grownBy W' row) (hne:some b≠row):VMap W' b n f:=h.same (hg.block b h.lt hne)
theorem VMap.bel (h:VMap W b n f) (hb:Below B W W') (hlt:b < B):VMap W' b n f:=h.same (hb.block b hlt)
theorem VMap.mono (h:VMap W b n f) (hn:n≤m):VMap W b m f:=by obtain ⟨D,h1,h2⟩:=h;exact ⟨D,h1.mono hn,h2⟩
theorem VMap.made (w:World):VMap (w.alloc (.map #[] 0)) w.heap.size 0 (fun _=>none):=⟨.map [],World.ownsMap_made w _ _ _,fun t=>⟨rfl,fun z=>rfl⟩⟩
theorem VMap.put {D:DataW Value} (hd:∀ t:Int,Maps.has D (.int .i64 t)=(f t).isSome∧∀ z,D.atKey (.int .i64 t) z=match f t with
 | none=>z
 | some v=>.held v) (hm:IsMap D) (t:Int) (v:Value) (h:W.ownsMap Tryz.prog 3 rawE b n (D.put (.int .i64 t) (.held v))):VMap W b n (updV f t v):=by
 refine ⟨_,h,fun u=>?_⟩
 unfold updV
 by_cases hu:u=t
 ·subst hu
  rw [if_pos rfl]
  refine ⟨?_,fun z=>?_⟩
  ·rw [has_put_same hm (show WideAt.IsKeyLit (.int .i64 u) from trivial)];rfl
  ·rw [atKey_put_same hm (show WideAt.IsKeyLit (.int .i64 u) from trivial)]
 ·rw [if_neg hu]
  have hne:(Lit.int .i64 u)≠Lit.int .i64 t:=fun h=>hu (by cases h;rfl)
  refine ⟨?_,fun z=>?_⟩
  ·rw [has_put_other hne];exact (hd u).1
  ·rw [atKey_put_other hne];exact (hd u).2 z
theorem VMap.del {D:DataW Value} (hd:∀ t:Int,Maps.has D (.int .i64 t)=(f t).isSome∧∀ z,D.atKey (.int .i64 t) z=match f t with
 | none=>z
 | some v=>.held v) (t:Int) (h:W.ownsMap Tryz.prog 3 rawE b n (D.del (.int .i64 t))):VMap W b n (delV f t):=by
 refine ⟨_,h,fun u=>?_⟩
 unfold delV
 by_cases hu:u=t
 ·subst hu
  rw [if_pos rfl]
  exact ⟨has_del_same,fun z=>atKey_del_same z⟩
 ·rw [if_neg hu]
  have hne:(Lit.int .i64 u)≠Lit.int .i64 t:=fun h=>hu (by cases h;rfl)
  refine ⟨?_,fun z=>?_⟩
  ·rw [has_del_other hne];exact (hd u).1
  ·rw [atKey_del_other hne];exact (hd u).2 z
end
section
variable {W:World} {b n:Nat} {f:Int→Option Value}
theorem keysOf_int {l:Lit} (h:KeysOf Tryz.prog 3 l):∃ t:Int,l=.int .i64 t:=by
 obtain ⟨v,hv⟩:=h
 have hu:Tryz.prog.underlying 3=some (.int .i64):=Tryz.underlying3
 have hm:mapKey Tryz.prog 3 v=some l:=by
  rw [keyOf] at hv
  rw [hu] at hv
  exact hv
 unfold mapKey at hm
 rw [hu] at hm
 cases v<;>simp at hm
 obtain ⟨⟨rfl,_⟩,rfl⟩:=hm
 exact ⟨_,rfl⟩
theorem nodup_perm {α:Type} [DecidableEq α] {a b:List α} (h1:a.Nodup) (h2:b.Nodup) (h:∀ x,x∈a↔x∈b):a.length=b.length:=by
 have:=List.Nodup.length_le_of_subset h1 (fun x hx=>(h x).1 hx)
 have:=List.Nodup.length_le_of_subset h2 (fun x hx=>(h x).2 hx)
 omega
theorem VMap.size {D:DataW Value} (hown:W.ownsMap Tryz.prog 3 rawE b n D) (hd:∀ t:Int,Maps.has D (.int .i64 t)=(f t).isSome∧∀ z,D.atKey (.int .i64 t) z=match f t with
 | none=>z
 | some v=>.held v) (ks:List Int) (hk:ks.Nodup) (hks:∀ t,t∈ks↔(f t).isSome=true):Maps.size D=ks.length:=by
 obtain ⟨es,clock,hb,F,hs,rfl⟩:=hown
 have hkeys:=fit_keys F
 have hap:=fit_apart law8i F
 obtain ⟨E,hE⟩:∃ E,List.map (WideElems.rg Tryz.prog 3 rawE) es.toList=E:=⟨_,rfl⟩
 rw [hE] at hkeys hap hd ⊢
 have hp:=Go.WideShapes.sorted_perm E
 rw [Maps.size_eq,hp.length_eq]
 have hin:∀ p∈E,∃ t:Int,p.1=.int .i64 t:=fun p hp=>keysOf_int (hkeys p hp)
 have hhas:∀ t:Int,(∃ p∈E,p.1=.int .i64 t)↔t∈ks:=fun t=>by
  rw [hks t,← (hd t).1,Maps.has_eq,List.any_eq_true]
  constructor
  ·rintro ⟨p,h1,h2⟩
   refine ⟨p,hp.mem_iff.2 h1,?_⟩
   rw [h2];simp [Lit.sameKey]
  ·rintro ⟨p,h1,h2⟩
   refine ⟨p,hp.mem_iff.1 h1,?_⟩
   obtain ⟨u,hu⟩:=hin p (hp.mem_iff.1 h1)
   rw [hu] at h2 ⊢
   by_cases e:u=t
   ·rw [e]
   ·rw [sameKey_ne (fun h=>e (by cases h;rfl))] at h2
    cases h2
 obtain ⟨g,hg⟩:∃ g:Lit→Int,∀ t:Int,g (.int .i64 t)=t:=⟨fun l=>match l with | .int _ t=>t | _=>0,fun t=>rfl⟩
 have hlen:(E.map fun p=>g p.1).length=ks.length:=by
  refine nodup_perm ?_ hk fun t=>?_
  ·rw [List.nodup_iff_pairwise_ne,List.pairwise_map]
   refine List.Pairwise.imp_of_mem ?_ hap
   intro p q hp hq hne he
   obtain ⟨u,hu⟩:=hin p hp
   obtain ⟨v,hv⟩:=hin q hq
   rw [hu,hv,hg,hg] at he
   exact hne (by rw [hu,hv,he])
  ·rw [List.mem_map,← hhas t]
   constructor
   ·rintro ⟨p,h1,h2⟩
    obtain ⟨u,hu⟩:=hin p h1
    rw [hu,hg] at h2
    exact ⟨p,h1,by rw [hu,h2]⟩
   ·rintro ⟨p,h1,h2⟩
    exact ⟨p,h1,by rw [h2,hg]⟩
 rw [← hlen,List.length_map]
end
/-! at the operation -/
section
variable (w:World) {ops:Array Oper} {rest:List Oper} {o:Oper} {a:Act} {Q:Exit→Act→World→Prop}
theorem wpl_look (hg:o.guard=none) (m x:Operand) (t:TypeId) (hop:o.op=Op.lookup t m x false) (e:TypeId) (ht:Tryz.prog.underlying t=some (.map 3 e)) {z:Value} (hz:(zeroValue e).run Tryz.prog w=.ok z w) (b n:Nat) (f:Int→Option Value)
 (hm:a.eval m=.map (some b)) (hM:VMap w b n f) (i:Int) (hi:I64 i) (hx:a.eval x=.int .i64 i) (v:Value) (hv:(f i).getD z=v) (hK:wpList Tryz.prog ops Q rest (a.put o.dst v) w):wpList Tryz.prog ops Q (o::rest) a w:=by
 refine wpList_plain hg fun K' hK'=>?_
 obtain ⟨D,hown,hd⟩:=hM
 obtain ⟨u,ps,hrun,hu⟩:=hown.lookup law8i ht hz (zd:=.held z) (zp:=[]) rfl (key8i hi)
 unfold Oper.wp
 simp [execOp,hop,hm,hx,hrun,Result.andThen]
 have e1:u=v:=by
  rw [(hd i).2] at hu
  rw [← hv]
  cases hf:f i with
  | none=>rw [hf] at hu;simp [rawE] at hu;simp [hu.1]
  | some y=>rw [hf] at hu;simp [rawE] at hu;simp [hu.1]
 rw [e1]
 exact hK' _ _ hK
theorem wpl_store (hg:o.guard=none) (m x y:Operand) (t:TypeId) (hop:o.op=Op.mapUpdate t m x y) (e:TypeId) (ht:Tryz.prog.underlying t=some (.map 3 e)) (b n:Nat) (f:Int→Option Value)
 (hm:a.eval m=.map (some b)) (hM:VMap w b n f) (hn:n < 9223372036854775807) (i:Int) (hi:I64 i) (hx:a.eval x=.int .i64 i) (v:Value) (hv:a.eval y=v)
 (hK:∀ w',VMap w' b (n+1) (updV f i v)→w.grownBy w' (some b)→wpList Tryz.prog ops Q rest (a.put o.dst undef) w'):wpList Tryz.prog ops Q (o::rest) a w:=by
 refine wpList_plain hg fun K' hK'=>?_
 obtain ⟨D,hown,hd⟩:=hM
 obtain ⟨w',hrun,r1,r2⟩:=hown.update law8i ht (by unfold maxLen;omega) (key8i hi) (val:=v) (d:=.held v) (ps:=[]) rfl
 unfold Oper.wp
 simp [execOp,hop,hm,hx,hv,hrun,Result.andThen]
 exact hK' _ _ (hK w' (VMap.put hd hown.isMap i v r1) r2)
theorem wpl_delete (hg:o.guard=none) (m x:Operand) (t:TypeId) (hop:o.op=Op.call { callee:=Callee.builtin Builtin.delete,args:=#[m,x],argTypes:=#[t,3] }) (e:TypeId) (ht:Tryz.prog.underlying t=some (.map 3 e)) (b n:Nat) (f:Int→Option Value)
 (hm:a.eval m=.map (some b)) (hM:VMap w b n f) (i:Int) (hi:I64 i) (hx:a.eval x=.int .i64 i)
 (hK:∀ w',VMap w' b n (delV f i)→w.grownBy w' (some b)→wpList Tryz.prog ops Q rest (a.put o.dst (.tuple #[])) w'):wpList Tryz.prog ops Q (o::rest) a w:=by
 obtain ⟨D,hown,hd⟩:=hM
 exact wpList_delete_own w hg m x t 3 hop e law8i ht rawE b n D hm hown _ _ hx (key8i hi) fun w' h1 h2=>hK w' (VMap.del hd i h1) h2.grown
theorem wpl_len (hg:o.guard=none) (m:Operand) (t:TypeId) (hop:o.op=Op.call { callee:=Callee.builtin Builtin.len,args:=#[m],argTypes:=#[t] }) (e:TypeId) (ht:Tryz.prog.underlying t=some (.map 3 e)) (b n:Nat) (f:Int→Option Value)
 (hm:a.eval m=.map (some b)) (hM:VMap w b n f) (ks:List Int) (hk:ks.Nodup) (hks:∀ t,t∈ks↔(f t).isSome=true)
 (hK:wpList Tryz.prog ops Q rest (a.put o.dst (.int .i64 (ks.length:Nat))) w):wpList Tryz.prog ops Q (o::rest) a w:=by
 obtain ⟨D,hown,hd⟩:=hM
 exact wpList_len_own w hg m t hop 3 e ht rawE b n D hm hown (by rw [VMap.size hown hd ks hk hks];exact hK)
end
end Go.Proofs.YtkkenfhlgpjmjaaGreatDoor
namespace Go.Proofs.YtkkenfhlgpjmjaaGreatDoor
set_option maxRecDepth 100000
open Go.RowKit Go.Maps
set_option linter.unusedVariables false
attribute [local go_sem] ba_size
abbrev tW:TypeId:=263
abbrev tC:TypeId:=269
abbrev tML:TypeId:=260
abbrev tMI:TypeId:=261
def cntV (p:Int × Int):Value:=.agg #[.int .i64 p.1,.int .i64 p.2]
def CMap (W:World) (b n:Nat) (c:Cnt):Prop:=VMap W b n (fun x=>(c x).map cntV)
theorem zeroC (w:World):(zeroValue tC).run Tryz.prog w=.ok (.agg #[.int .i64 0,.int .i64 0]) w:=by kernel_rfl
abbrev webC (vl vn:Value) (m1 m2 m3:Nat):Array Value:=#[vl,vn,.map (some m1),.map (some m2),.map (some m3)]
abbrev webV (vl vn:Value) (m1 m2 m3:Nat):Value:=.agg (webC vl vn m1 m2 m3)
end Go.Proofs.YtkkenfhlgpjmjaaGreatDoor
namespace Go.Proofs.YtkkenfhlgpjmjaaGreatDoor
set_option maxRecDepth 100000
open Go.RowKit
set_option linter.unusedVariables false
def Shp (v:Value):Prop:=v=.slice none 0 0∨∃ ad n c,v=.slice (some ad) n c
theorem Shp.own {W:World} {B e k n:Nat} {v:Value} {xs:List Value} (h:W.ownsRow B e k v n xs):Shp v:=by
 rcases h.2 with ⟨rfl,_⟩ | ⟨g,cap,cur,rfl,_⟩
 ·exact .inl rfl
 ·exact .inr ⟨_,_,_,rfl⟩
def slLen:Value→Nat
 | .slice _ n _=>n
 | _=>0
section
variable {α:Type}
end
end Go.Proofs.YtkkenfhlgpjmjaaGreatDoor
namespace Go.Proofs.YtkkenfhlgpjmjaaGreatDoor
set_option maxRecDepth 100000
open Go.RowKit
set_option linter.unusedVariables false
theorem own_empty8 (w:World) (e k:Nat):(w.alloc (.cells #[] e)).ownsRow w.heap.size e k (.slice (some ⟨w.heap.size,0,none⟩) 0 0) 0 [] :=
 ⟨by simp,.inr ⟨w.heap.size,0,#[],rfl,Nat.le_refl _,SBox.new w e #[],Nat.le_refl _,by unfold maxLen;omega,by simp,by simp⟩⟩
theorem rec_src8 {α:Type} {sz:Nat} {enc:α→List Value} (hz:∀ x,(enc x).length=sz) (hs:0 < sz) {W:World} {b off:Nat} {L:List α} (h:∀ i (h:i < L.length) j u,(enc L[i])[j]?=some u→W.cell? ⟨b,off+i*sz+j,none⟩=some u):∀ j u,(recV enc L)[j]?=some u→W.cell? ((⟨b,off,none⟩:Addr).add j)=some u:=by
 intro j u hu
 have hj:j < L.length*sz:=by
  have:=(List.getElem?_eq_some_iff.1 hu).1
  rwa [recV_length hz] at this
 have hi:j / sz < L.length:=(Nat.div_lt_iff_lt_mul hs).2 hj
 have hm:j % sz < sz:=Nat.mod_lt _ hs
 have e:j / sz*sz+j % sz=j:=by rw [Nat.mul_comm];exact Nat.div_add_mod j sz
 have g:=recV_get hz L (j / sz) hi (j % sz) hm
 rw [e,hu] at g
 have:=h (j / sz) hi (j % sz) u g.symm
 rw [Nat.add_assoc,e] at this
 have ea:(⟨b,off,none⟩:Addr).add j=⟨b,off+j,none⟩:=by simp [Addr.add]
 rw [ea]
 exact this
theorem IsRec.src {α:Type} {sz:Nat} {enc:α→List Value} (hz:∀ x,(enc x).length=sz) (hs:0 < sz) {w W:World} {ad:Addr} {n c:Nat} {L:List α} (h:IsRec sz enc w (.slice (some ad) n c) L) (hb:Below w.heap.size w W):∀ j u,(recV enc L)[j]?=some u→W.cell? (ad.add j)=some u:=by
 by_cases h0:L=[]
 ·subst h0;intro j u hu;simp [recV] at hu
 ·obtain ⟨a,n',c',hv,h1,_,_,_,h6⟩:=h
  obtain ⟨rfl,rfl,rfl⟩:a=some ad∧n'=n∧c'=c:=by simpa [eq_comm] using hv
  rcases h6 with h6 | ⟨b,off,hb',hlt,hc⟩
  ·exact absurd (List.length_eq_zero_iff.1 (by omega)) h0
  ·obtain rfl:ad=⟨b,off,none⟩:=by simpa using hb'
   refine rec_src8 hz hs (fun i hi j u hu=>?_)
   exact (hb.cell (p:=⟨b,off+i*sz+j,none⟩) hlt).trans (hc i hi j u hu)
theorem own_slice9 {W:World} {B e k n:Nat} {v:Value} {xs:List Value} (h:W.ownsRow B e k v n xs):∃ g c,v=.slice g n c∧n≤c:=by
 rcases h.2 with ⟨rfl,rfl⟩ | ⟨g,cap,cur,rfl,_,_,hc,_⟩
 ·exact ⟨_,_,rfl,Nat.le_refl _⟩
 ·exact ⟨_,_,rfl,hc⟩
end Go.Proofs.YtkkenfhlgpjmjaaGreatDoor
namespace Go.Proofs.YtkkenfhlgpjmjaaGreatDoor
set_option maxRecDepth 100000
open Go.RowKit
set_option linter.unusedVariables false
def iV (K:List Int):List Value:=K.map (Value.int .i64)
theorem iV_rec (K:List Int):recV intV K=iV K:=by
 unfold recV iV
 induction K with
 | nil=>rfl
 | cons x r ih=>rw [List.flatMap_cons,ih];rfl
theorem iV_length (K:List Int):(iV K).length=K.length:=by unfold iV;rw [List.length_map]
theorem iV_app (K M:List Int):iV (K++M)=iV K++iV M:=by unfold iV;rw [List.map_append]
theorem iV_at (K:List Int) (i:Nat) (h:i < K.length):(iV K)[i]?=some (.int .i64 K[i]):=by unfold iV;simp [h]
section
variable {α:Type}
end
section
variable {α:Type}
end
end Go.Proofs.YtkkenfhlgpjmjaaGreatDoor
namespace Go.Proofs.YtkkenfhlgpjmjaaGreatDoor
set_option maxRecDepth 100000
open Go.RowKit
set_option linter.unusedVariables false
def vblk (W:World) (bn:Nat):Option Nat:=match W.cell? ⟨bn,0,none⟩ with
 | some v=>v.ownBlock
 | none=>none
theorem vblk_of {W:World} {bn:Nat} {t:TypeId} {v:Value} (h:Boxed W bn t v):vblk W bn=v.ownBlock:=by unfold vblk;rw [h.cell]
theorem vblk_same {W W':World} {bn:Nat} (h:W'.heap[bn]?=W.heap[bn]?):vblk W' bn=vblk W bn:=by unfold vblk;rw [World.cell?_of_block (a:=⟨bn,0,none⟩) h]
structure Fr (B bn:Nat) (W W':World):Prop where
 bel:Below B W W'
 blk:∀ b,b < W.heap.size→b≠bn→some b≠vblk W bn→W'.heap[b]?=W.heap[b]?
 vb:vblk W' bn=vblk W bn∨∃ g,vblk W' bn=some g∧W.heap.size≤g
section
variable {B bn:Nat} {A W W':World}
theorem Fr.refl (B bn:Nat) (W:World):Fr B bn W W:=⟨Below.refl _ _,fun _ _ _ _=>rfl,.inl rfl⟩
theorem Fr.trans (h:Fr B bn A W) (k:Fr B bn W W'):Fr B bn A W':=by
 refine ⟨h.bel.trans k.bel,fun b hb hne h3=>?_,?_⟩
 ·refine (k.blk b (Nat.lt_of_lt_of_le hb h.bel.size) hne (fun e=>?_)).trans (h.blk b hb hne h3)
  rcases h.vb with e1 | ⟨g,e1,e2⟩
  ·exact h3 (by rw [← e1];exact e)
  ·rw [e1] at e
   have:=Option.some.inj e
   omega
 ·rcases k.vb with e1 | ⟨g,e1,e2⟩
  ·rcases h.vb with e3 | ⟨g,e3,e4⟩
   ·exact .inl (e1.trans e3)
   ·exact .inr ⟨g,e1.trans e3,e4⟩
  ·exact .inr ⟨g,e1,Nat.le_trans h.bel.size e2⟩
theorem Fr.below (h:Below W.heap.size W W') (hB:B≤W.heap.size) (bn:Nat) (hbn:bn < W.heap.size):Fr B bn W W':=⟨h.mono hB,fun b hb _ _=>h.block b hb,.inl (vblk_same (h.block bn hbn))⟩
theorem Fr.andBelow (h:Fr B bn A W) (k:Below W.heap.size W W') (hB:B≤W.heap.size) (hbn:bn < W.heap.size):Fr B bn A W':=h.trans (Fr.below k hB bn hbn)
theorem Fr.row (h:Fr B bn A W) {n:Nat} {v:Value} {xs:List Value} (hrow:W.ownsRow B 3 1 v n xs) {t:TypeId} (hbx:Boxed W bn t v) (ht:t≠3) (hg:W.grownBy W' v.ownBlock) (hB:B≤W.heap.size):Fr B bn A W' :=
 h.trans ⟨(Below.refl B W).grown hg hB (fun j hj=>(hrow.lt j hj).1),fun b hb hne h3=>hg.block b hb (fun e=>h3 (by rw [vblk_of hbx];exact e)),.inl (vblk_same (hg.block bn hbx.lt (block_not_row hbx ht hrow)))⟩
theorem Fr.alloc (h:Fr B bn A W) (hB:B≤W.heap.size) (hbn:bn < W.heap.size) (o:Obj):Fr B bn A (W.alloc o):=h.andBelow ((Below.refl _ W).alloc (Nat.le_refl _) o) hB hbn
theorem Fr.drew (h:Fr B bn A W):Fr B bn A W.drew:=⟨h.bel.drew,h.blk,h.vb⟩
theorem Fr.set (h:Fr B bn A W) (hB:B≤bn) {t:TypeId} {v:Value} (hbx:Boxed W bn t v) (u:Value) (hu:u.ownBlock=vblk A bn∨∃ g,u.ownBlock=some g∧A.heap.size≤g):Fr B bn A (W.setCell ⟨bn,0,none⟩ u):=by
 have e:vblk (W.setCell ⟨bn,0,none⟩ u) bn=u.ownBlock:=vblk_of (hbx.set u)
 refine ⟨h.bel.setCell (p:=⟨bn,0,none⟩) hB u,fun b hb hne h3=>(Below.heap_setCell _ _ _ b hne).trans (h.blk b hb hne h3),by rw [e];exact hu⟩
theorem Fr.other (h:Fr B bn W W') {B' e k n:Nat} {v:Value} {xs:List Value} (ho:W.ownsRow B' e k v n xs) (hne:v.ownBlock≠some bn) (hv:∀ g,v.ownBlock=some g→vblk W bn≠some g):W'.ownsRow B' e k v n xs∧∀ g,v.ownBlock=some g→vblk W' bn≠some g:=by
 constructor
 ·rcases ho.2 with ⟨rfl,h0⟩ | ⟨g,cap,cur,rfl,h1,h2,h3⟩
  ·exact ⟨ho.1,.inl ⟨rfl,h0⟩⟩
  ·refine ⟨ho.1,.inr ⟨g,cap,cur,rfl,h1,(h.blk g (Array.getElem?_eq_some_iff.1 h2).1 (fun e=>hne (by rw [e];simp [Value.ownBlock])) (fun e=>hv g (by simp [Value.ownBlock]) e.symm)).trans h2,h3⟩⟩
 ·intro g hg e
  rcases h.vb with e1 | ⟨g',e1,e2⟩
  ·exact hv g hg (by rw [← e1];exact e)
  ·have:=(ho.lt g hg).2
   rw [e1] at e
   have:=Option.some.inj e
   omega
end
end Go.Proofs.YtkkenfhlgpjmjaaGreatDoor
namespace Go.Proofs.YtkkenfhlgpjmjaaGreatDoor
set_option maxRecDepth 100000
set_option linter.unusedVariables false
abbrev hg (a:List Int) (k:Nat):Int:=a.getD k 0
def swL (a:List Int) (i j:Nat):List Int:=(a.set i (hg a j)).set j (hg a i)
theorem swL_len (a:List Int) (i j:Nat):(swL a i j).length=a.length:=by simp [swL]
theorem swL_at (a:List Int) (i j k:Nat) (hi:i < a.length) (hj:j < a.length):hg (swL a i j) k=if k=j then hg a i else if k=i then hg a j else hg a k:=by
 unfold swL hg
 rw [List.getD_eq_getElem?_getD,List.getElem?_set]
 by_cases h1:k=j
 ·subst h1
  simp [hj]
 ·rw [if_neg (fun e=>h1 e.symm),if_neg h1,List.getElem?_set]
  by_cases h2:k=i
  ·subst h2
   simp [hi]
  ·rw [if_neg (fun e=>h2 e.symm),if_neg h2,List.getD_eq_getElem?_getD]
theorem swL_perm (a:List Int) (i j:Nat) (hi:i < a.length) (hj:j < a.length):(swL a i j).Perm a:=by
 rw [List.perm_iff_count]
 intro x
 unfold swL
 have hj':j < (a.set i (hg a j)).length:=by simpa using hj
 rw [List.count_set hj',List.count_set hi]
 have e1:hg a j=a[j]:=by simp [hg,hj]
 have e2:hg a i=a[i]:=by simp [hg,hi]
 have hc1:a[i]=x→0 < a.count x:=fun h=>List.count_pos_iff.2 (h ▸ List.getElem_mem hi)
 have hc2:a[j]=x→0 < a.count x:=fun h=>List.count_pos_iff.2 (h ▸ List.getElem_mem hj)
 have e3:(a.set i (hg a j))[j]=a[j]:=by
  rw [List.getElem_set]
  split
  ·rw [e1]
  ·rfl
 rw [e3,e1,e2]
 simp only [beq_iff_eq]
 by_cases h1:a[i]=x
 ·by_cases h2:a[j]=x
  ·have:=hc1 h1;simp [h1,h2];omega
  ·have:=hc1 h1;simp [h1,h2];omega
 ·by_cases h2:a[j]=x
  ·have:=hc2 h2;simp [h1,h2]
  ·simp [h1,h2]
def HeapN (a:List Int) (n:Nat):Prop:=∀ k,0 < k→k < n→hg a ((k - 1) / 2)≤hg a k
theorem HeapN.root {a:List Int} {n:Nat} (h:HeapN a n):∀ k,k < n→hg a 0≤hg a k:=by
 intro k
 induction k using Nat.strongRecOn with
 | _ k ih =>
   intro hk
   rcases Nat.eq_zero_or_pos k with h0 | h0
   ·subst h0;exact Int.le_refl _
   ·have:=ih ((k - 1) / 2) (by omega) (by omega)
    have:=h k h0 hk
    omega
def UpI (a:List Int) (j n:Nat):Prop:=(∀ k,0 < k→k < n→k≠j→hg a ((k - 1) / 2)≤hg a k)∧(∀ k,0 < k→k < n→(k - 1) / 2=j→0 < j→hg a ((j - 1) / 2)≤hg a k)
theorem upI_start (a:List Int) (x:Int) (h:HeapN a a.length):UpI (a++[x]) a.length (a.length+1):=by
 have e:∀ k,k < a.length→hg (a++[x]) k=hg a k:=fun k hk=>by unfold hg;rw [List.getD_eq_getElem?_getD,List.getElem?_append_left hk,List.getD_eq_getElem?_getD]
 refine ⟨fun k h0 hk hne=>?_,fun k h0 hk hp h1=>by omega⟩
 rw [e k (by omega),e ((k - 1) / 2) (by omega)]
 exact h k h0 (by omega)
theorem upI_zero {a:List Int} {n:Nat} (h:UpI a 0 n):HeapN a n:=fun k h0 hk=>h.1 k h0 hk (by omega)
theorem upI_stop {a:List Int} {j n:Nat} (h:UpI a j n) (hle:hg a ((j - 1) / 2)≤hg a j):HeapN a n:=fun k h0 hk=>by
 by_cases e:k=j
 ·rw [e];exact hle
 ·exact h.1 k h0 hk e
theorem upI_step {a:List Int} {j n:Nat} (h:UpI a j n) (hn:n≤a.length) (h0:0 < j) (hj:j < n) (hlt:hg a j < hg a ((j - 1) / 2)):UpI (swL a ((j - 1) / 2) j) ((j - 1) / 2) n:=by
 have hi:(j - 1) / 2 < a.length:=by omega
 have hj':j < a.length:=by omega
 refine ⟨fun k k0 hk hne=>?_,fun k k0 hk hp hi0=>?_⟩
 ·rw [swL_at a _ _ _ hi hj',swL_at a _ _ _ hi hj']
  by_cases e1:k=j
  ·subst e1
   rw [if_neg (by omega),if_pos rfl,if_pos rfl]
   omega
  ·rw [if_neg e1,if_neg hne]
   by_cases e2:(k - 1) / 2=j
   ·rw [if_pos e2]
    exact h.2 k k0 hk e2 h0
   ·rw [if_neg e2]
    by_cases e3:(k - 1) / 2=(j - 1) / 2
    ·rw [if_pos e3]
     have:=h.1 k k0 hk e1
     rw [e3] at this
     omega
    ·rw [if_neg e3]
     exact h.1 k k0 hk e1
 ·have hii:hg a (((j - 1) / 2 - 1) / 2)≤hg a ((j - 1) / 2):=h.1 ((j - 1) / 2) hi0 (by omega) (by omega)
  rw [swL_at a _ _ _ hi hj',swL_at a _ _ _ hi hj',if_neg (by omega),if_neg (by omega)]
  by_cases e1:k=j
  ·rw [if_pos e1];exact hii
  ·rw [if_neg e1,if_neg (by omega)]
   have:=h.1 k k0 hk e1
   rw [hp] at this
   omega
def DownI (a:List Int) (i n:Nat):Prop:=(∀ k,0 < k→k < n→(k - 1) / 2≠i→hg a ((k - 1) / 2)≤hg a k)∧(∀ k,0 < k→k < n→(k - 1) / 2=i→0 < i→hg a ((i - 1) / 2)≤hg a k)
theorem downI_start (a:List Int) (n:Nat) (hl:a.length=n+1) (h:HeapN a (n+1)):DownI (swL a 0 n) 0 n:=by
 refine ⟨fun k k0 hk hne=>?_,fun k _ _ _ h0=>by omega⟩
 rw [swL_at a _ _ _ (by omega) (by omega),swL_at a _ _ _ (by omega) (by omega),if_neg (by omega),if_neg (by omega),if_neg (by omega),if_neg (by omega)]
 exact h k k0 (by omega)
theorem downI_leaf {a:List Int} {i n:Nat} (h:DownI a i n) (hn:n≤2*i+1):HeapN a n:=fun k k0 hk=>h.1 k k0 hk (by omega)
def LeastC (a:List Int) (i j n:Nat):Prop:=j < n∧(j=2*i+1∨j=2*i+2)∧∀ k,0 < k→k < n→(k - 1) / 2=i→hg a j≤hg a k
theorem leastC_one {a:List Int} {i n:Nat} (h1:2*i+1 < n) (h2:n≤2*i+2∨hg a (2*i+1)≤hg a (2*i+2)):LeastC a i (2*i+1) n:=by
 refine ⟨h1,.inl rfl,fun k k0 hk hp=>?_⟩
 rcases (show k=2*i+1∨k=2*i+2 by omega) with e | e
 ·rw [e];exact Int.le_refl _
 ·rw [e];rcases h2 with h2 | h2
  ·omega
  ·exact h2
theorem leastC_two {a:List Int} {i n:Nat} (h1:2*i+2 < n) (h2:hg a (2*i+2) < hg a (2*i+1)):LeastC a i (2*i+2) n:=by
 refine ⟨h1,.inr rfl,fun k k0 hk hp=>?_⟩
 rcases (show k=2*i+1∨k=2*i+2 by omega) with e | e
 ·rw [e];omega
 ·rw [e];exact Int.le_refl _
theorem downI_stop {a:List Int} {i j n:Nat} (h:DownI a i n) (hc:LeastC a i j n) (hle:hg a i≤hg a j):HeapN a n:=fun k k0 hk=>by
 by_cases e:(k - 1) / 2=i
 ·have:=hc.2.2 k k0 hk e
  rw [e];omega
 ·exact h.1 k k0 hk e
theorem downI_step {a:List Int} {i j n:Nat} (h:DownI a i n) (hn:n≤a.length) (hc:LeastC a i j n) (hlt:hg a j < hg a i):DownI (swL a i j) j n:=by
 obtain ⟨c1,c2,c3⟩:=hc
 have hi:i < a.length:=by omega
 have hj:j < a.length:=by omega
 have hpj:(j - 1) / 2=i:=by omega
 refine ⟨fun k k0 hk hne=>?_,fun k k0 hk hp _=>?_⟩
 ·rw [swL_at a _ _ _ hi hj,swL_at a _ _ _ hi hj]
  by_cases e1:(k - 1) / 2=i
  ·rw [if_neg hne,if_pos e1]
   by_cases e2:k=j
   ·rw [if_pos e2];omega
   ·rw [if_neg e2,if_neg (by omega)]
    exact c3 k k0 hk e1
  ·rw [if_neg hne,if_neg e1]
   by_cases e2:k=j
   ·omega
   ·rw [if_neg e2]
    by_cases e3:k=i
    ·rw [if_pos e3,e3]
     exact h.2 j (by omega) c1 hpj (by omega)
    ·rw [if_neg e3]
     exact h.1 k k0 hk e1
 ·rw [swL_at a _ _ _ hi hj,swL_at a _ _ _ hi hj,if_neg (by omega),if_pos hpj,if_neg (by omega),if_neg (by omega)]
  have:=h.1 k k0 hk (by omega)
  rw [hp] at this
  exact this
def Heaped (a:List Int):Prop:=HeapN a a.length
theorem heaped_nil:Heaped []:=fun k _ h=>by simp at h
def Pushed (a:List Int) (x:Int) (b:List Int):Prop:=Heaped b∧b.Perm (x::a)
def Popped (a:List Int) (x:Int) (b:List Int):Prop:=Heaped b∧a.Perm (x::b)∧∀ y∈a,x≤y
theorem pushed_of (a b:List Int) (x:Int) (hp:b.Perm (a++[x])) (hh:HeapN b (a.length+1)):Pushed a x b:=by
 have hl:b.length=a.length+1:=by rw [hp.length_eq];simp
 refine ⟨by unfold Heaped;rw [hl];exact hh,hp.trans ?_⟩
 exact List.perm_append_singleton x a
theorem popped_of (a c:List Int) (n:Nat) (hl:a.length=n+1) (ha:Heaped a) (hp:c.Perm a) (hh:HeapN c n) (hlast:hg c n=hg a 0):Popped a (hg a 0) (c.take n):=by
 have hcl:c.length=n+1:=by rw [hp.length_eq,hl]
 have ec:c=c.take n++[hg a 0]:=by
  have h1:c.take (n+1)=c.take n++[c[n]]:=List.take_succ_eq_append_getElem (by omega)
  rw [List.take_of_length_le (by omega)] at h1
  have h2:c[n]=hg a 0:=by rw [← hlast];simp [hg,hcl]
  rw [h2] at h1
  exact h1
 refine ⟨?_,?_,?_⟩
 ·unfold Heaped
  rw [List.length_take,Nat.min_eq_left (by omega)]
  intro k k0 hk
  have e:∀ m,m < n→hg (c.take n) m=hg c m:=fun m hm=>by simp [hg,hm]
  rw [e k hk,e _ (by omega)]
  exact hh k k0 hk
 ·refine hp.symm.trans ?_
  have h3:=List.perm_append_singleton (hg a 0) (c.take n)
  rw [← ec] at h3
  exact h3
 ·intro y hy
  obtain ⟨k,hk,rfl⟩:=List.getElem_of_mem hy
  have:=ha.root k hk
  simpa [hg,hk] using this
open Go.RowKit
attribute [local go_sem] ba_size
abbrev HRow (W:World) (B g c:Nat) (a:List Int):Prop:=W.ownsRow B 3 1 (.slice (some ⟨g,0,none⟩) a.length c) a.length (iV a)
theorem HRow.cell {W:World} {B g c:Nat} {a:List Int} (h:HRow W B g c a) (j:Nat) (hj:j < a.length):W.cell? ⟨g,j,none⟩=some (.int .i64 (hg a j)):=by
 rw [h.cellAt j (by omega),iV_at a j hj]
 simp [hj]
theorem HRow.set {W:World} {B g c:Nat} {a:List Int} (h:HRow W B g c a) (j:Nat) (x:Int):HRow (W.setCell ⟨g,j,none⟩ (.int .i64 x)) B g c (a.set j x):=by
 have:=(h.stored j (.int .i64 x)).1
 unfold HRow
 rw [List.length_set]
 have e:(iV a).set j (.int .i64 x)=iV (a.set j x):=by unfold iV;rw [List.map_set]
 rw [e] at this
 exact this
theorem plen11_any (a:Option Addr) (n c:Nat) (W:World):Calls Tryz.prog 206 #[.slice a n c] W fun e W'=>e=.returned (.int .i64 (n:Int))∧W'=W:=by
 go_enter Tryz.func206,Tryz.ntmps206
 go_wp2_with fail
 go_ret
 exact ⟨rfl,rfl⟩
theorem pless11_any (W:World) (B g c:Nat) (a:List Int) (h:HRow W B g c a) (i j:Nat) (hi:i < a.length) (hj:j < a.length) (hn:a.length≤140737488351232) :
 Calls Tryz.prog 330 #[.slice (some ⟨g,0,none⟩) a.length c,.int .i64 (i:Int),.int .i64 (j:Int)] W fun e W'=>e=.returned (.bool (decide (hg a i < hg a j)))∧Below W.heap.size W W':=by
 have c1:=h.cell i hi
 have c2:=h.cell j hj
 obtain ⟨n,hnn⟩:∃ n,a.length=n:=⟨_,rfl⟩
 rw [hnn] at hi hj hn ⊢
 have j1:(i:Int) < (n:Int):=by omega
 have j2:(j:Int) < (n:Int):=by omega
 obtain ⟨x,hx⟩:∃ x,hg a i=x:=⟨_,rfl⟩
 obtain ⟨y,hy⟩:∃ y,hg a j=y:=⟨_,rfl⟩
 rw [hx] at c1 ⊢
 rw [hy] at c2 ⊢
 clear hx hy h hnn
 go_enter Tryz.func330,Tryz.ntmps330
 go_wp2_with fail
 go_quiet (fail)
 go_wp2_with fail
 go_ret
 exact ⟨rfl,below_drewN (Below.refl _ _) nq⟩
set_option maxHeartbeats 2000000 in
theorem pswap11_any (W:World) (B g c:Nat) (a:List Int) (h:HRow W B g c a) (i j:Nat) (hi:i < a.length) (hj:j < a.length) (hn:a.length≤140737488351232) :
 Calls Tryz.prog 332 #[.slice (some ⟨g,0,none⟩) a.length c,.int .i64 (i:Int),.int .i64 (j:Int)] W fun e W'=>e=.returned (.tuple #[])∧HRow W' B g c (swL a i j)∧W.grownBy W' (some g):=by
 have c1:=h.cell i hi
 have c2:=h.cell j hj
 have f1:=h.frozenAt i
 have f2:=h.frozenAt j
 have HE:Hid (HRow ((W.setCell ⟨g,i,none⟩ (.int .i64 (hg a j))).setCell ⟨g,j,none⟩ (.int .i64 (hg a i))) B g c (swL a i j)):=(h.set i _).set j _
 have HG:Hid (W.grownBy ((W.setCell ⟨g,i,none⟩ (.int .i64 (hg a j))).setCell ⟨g,j,none⟩ (.int .i64 (hg a i))) (some g)):=by
  have g1:=Lib.grownBy_setCell W g i (.int .i64 (hg a j))
  have g2:=Lib.grownBy_setCell (W.setCell ⟨g,i,none⟩ (.int .i64 (hg a j))) g j (.int .i64 (hg a i))
  exact ⟨g2.os.trans g1.os,g2.tape.trans g1.tape,g2.output.trans g1.output,Nat.le_trans g1.size g2.size,fun k hk hne=>(g2.block k (Nat.lt_of_lt_of_le hk g1.size) hne).trans (g1.block k hk hne)⟩
 obtain ⟨n,hnn⟩:∃ n,a.length=n:=⟨_,rfl⟩
 rw [hnn] at hi hj hn ⊢
 have j1:(i:Int) < (n:Int):=by omega
 have j2:(j:Int) < (n:Int):=by omega
 obtain ⟨x,hx⟩:∃ x,hg a i=x:=⟨_,rfl⟩
 obtain ⟨y,hy⟩:∃ y,hg a j=y:=⟨_,rfl⟩
 rw [hx,hy] at HE HG
 rw [hx] at c1
 rw [hy] at c2
 obtain ⟨v',hv'⟩:∃ v',((W.drew).setCell ⟨g,i,none⟩ (.int .i64 y)).cell? ⟨g,j,none⟩=some v':=by
  by_cases e:(⟨g,i,none⟩:Addr)=⟨g,j,none⟩
  ·rw [← e];exact ⟨_,World.cell?_setCell_same _ _ _ (show W.drew.cell? ⟨g,i,none⟩=some (.int .i64 x) from c1)⟩
  ·exact ⟨_,(World.cell?_setCell_other _ _ _ _ e).trans (show W.drew.cell? ⟨g,j,none⟩=some (.int .i64 y) from c2)⟩
 have f3:((W.drew).setCell ⟨g,i,none⟩ (.int .i64 y)).frozen? ⟨g,j,none⟩=false:=(World.frozen?_setCell _ _ _ _).trans f2
 have hv2:((W.setCell ⟨g,i,none⟩ (.int .i64 y)).drew).cell? ⟨g,j,none⟩=some v':=hv'
 have f4:((W.setCell ⟨g,i,none⟩ (.int .i64 y)).drew).frozen? ⟨g,j,none⟩=false:=f3
 clear hx hy h hnn
 go_enter Tryz.func332,Tryz.ntmps332
 go_wp2_with fail
 go_region
 all_goals (go_end0;exact ⟨rfl,HE.out,⟨HG.out.os,HG.out.tape,HG.out.output,HG.out.size,HG.out.block⟩⟩)
abbrev tR:TypeId:=267
def HpS (W:World) (B bn:Nat) (a:List Int):Prop:=B≤bn∧∃ v,Boxed W bn tR v∧W.ownsRow B 3 1 v a.length (iV a)
theorem HpS.bel {W W':World} {B bn:Nat} {a:List Int} (h:HpS W B bn a) (hb:Below W.heap.size W W'):HpS W' B bn a:=by
 obtain ⟨h0,v,h1,h2⟩:=h
 exact ⟨h0,v,(hb.block bn h1.lt).trans h1,h2.kept (grown_below8 none hb) (by cases v.ownBlock<;>simp)⟩
theorem cell_al11 {W:World} {p:Addr} {u:Value} (o:Obj) (h:W.cell? p=some u):(W.alloc o).cell? p=some u:=cell_bel ((Below.refl _ W).alloc (Nat.le_refl _) o) h
theorem own_shape11 {W:World} {B e k n:Nat} {v:Value} {xs:List Value} (h:W.ownsRow B e k v n xs):∃ ad c,v=.slice ad n c:=by
 rcases h.2 with ⟨rfl,rfl⟩ | ⟨g,cap,cur,rfl,_⟩
 ·exact ⟨_,_,rfl⟩
 ·exact ⟨_,_,rfl⟩
set_option maxHeartbeats 4000000 in
theorem ppush11_any (W:World) (B bn:Nat) (a:List Int) (x:Int) (hx:I64 x) (h:HpS W B bn a) (hn:a.length < 17592186044416) :
 Calls Tryz.prog 334 #[.pointer (some ⟨bn,0,none⟩),.iface 3 (.int .i64 x)] W fun e W'=>e=.returned (.tuple #[])∧HpS W' B bn (a++[x])∧Fr B bn W W':=by
 obtain ⟨i0,hi,hz0,hz1,hz2⟩:=info_parts int_info
 obtain ⟨hB,v,hb,hrow⟩:=h
 have hlt:=hb.lt
 have hne:=block_not_row hb (by decide) hrow
 obtain ⟨n,hnn⟩:∃ n,a.length=n:=⟨_,rfl⟩
 have HN:Hid (a.length=n):=hnn
 rw [hnn] at hrow hn
 clear hnn
 go_enter Tryz.func334,Tryz.ntmps334
 refine wp_region_any (by kernel_rfl) ?_
 change wpAny _ _ _ _ _ _ _ (World.drew _)
 generalize hwd:World.drew _=wd
 have hbd:Boxed wd bn tR v:=by rw [← hwd];exact hb
 have hrowd:wd.ownsRow B 3 1 v n (iV a):=by rw [← hwd];exact hrow
 have hBd:Fr B bn W wd:=by rw [← hwd];exact (Fr.refl _ _ _).drew
 have hsd:W.heap.size≤wd.heap.size:=by rw [← hwd];exact Nat.le_refl _
 have hta:∀ V,(Instr.typeAssert (.iface 3 (.int .i64 x)) 20 3 false).run Tryz.prog V=.ok (.int .i64 x) V:=fun V=>by kernel_rfl
 clear hwd
 have p0:=hbd.cell
 refine any_of_C (C:=fun V=>V.cell? ⟨bn,0,none⟩=some v) 9 _ _ _ _ ?_
 refine takeC (i:=0) (v:=.pointer (some ⟨bn,0,none⟩)) rfl (by kernel_rfl) (by kernel_rfl) (by kernel_rfl) (by kernel_rfl) (by kernel_rfl) (fun _ _ _ h=>h) (Or.inl ⟨by kernel_rfl,fun V hV=>by go_simp⟩) ?_
 refine takeC (i:=1) (v:=.pointer (some ⟨bn,0,none⟩)) rfl (by kernel_rfl) (by kernel_rfl) (by kernel_rfl) (by kernel_rfl) (by kernel_rfl) (fun _ _ _ h=>h) (Or.inl ⟨by kernel_rfl,fun V hV=>by go_simp⟩) ?_
 refine takeC (i:=2) (v:=.pointer (some ⟨bn,0,none⟩)) rfl (by kernel_rfl) (by kernel_rfl) (by kernel_rfl) (by kernel_rfl) (by kernel_rfl) (fun _ _ _ h=>h) (Or.inl ⟨by kernel_rfl,fun V hV=>by go_simp⟩) ?_
 refine takeC (i:=3) (v:=.pointer (some ⟨bn,0,none⟩)) rfl (by kernel_rfl) (by kernel_rfl) (by kernel_rfl) (by kernel_rfl) (by kernel_rfl) (fun _ _ _ h=>h) (Or.inl ⟨by kernel_rfl,fun V hV=>by go_simp⟩) ?_
 refine takeC (i:=4) (v:=v) rfl (by kernel_rfl) (by kernel_rfl) (by kernel_rfl) (by kernel_rfl) (by kernel_rfl) (fun _ _ _ h=>h) (Or.inl ⟨by kernel_rfl,fun V hV=>by go_simp⟩) ?_
 refine takeC (i:=5) (v:=.iface 3 (.int .i64 x)) rfl (by kernel_rfl) (by kernel_rfl) (by kernel_rfl) (by kernel_rfl) (by kernel_rfl) (fun _ _ _ h=>h) (Or.inl ⟨by kernel_rfl,fun V hV=>by go_simp⟩) ?_
 refine takeC (i:=6) (v:=.int .i64 x) rfl (by kernel_rfl) (by kernel_rfl) (by kernel_rfl) (by kernel_rfl) (by kernel_rfl) (fun _ _ _ h=>h) (Or.inl ⟨by kernel_rfl,fun V hV=>by go_simp⟩) ?_
 refine consC (i:=7) (by kernel_rfl) (by kernel_rfl) p0 rfl (fun K hK=>?_)
 go_wp2_with fail
 refine consC (i:=8) (by kernel_rfl) (by kernel_rfl) (cell_al11 _ p0) rfl (fun K hK=>?_)
 refine wpList_append_own_at _ rfl _ _ 265 rfl B 3 i0 (.int .i64 0) 1 8 Tryz.underlying265 hi hz0 hz1 hz2 rfl (by decide) v _ _ rfl (hrowd.alloc _) ⟨wd.heap.size,0,none⟩ 1 1 [.int .i64 x] rfl rfl ?a1 ?a2 ?a3 ?a4 ?a5 ?_
 case a1=>intro j u hj;match j,hj with
  | 0,hj=>simp at hj;subst hj;simp [Addr.add]
 case a2=>intro u hu;simp at hu;subst hu;rfl
 case a3=>unfold maxLen;omega
 case a4=>omega
 case a5=>simp;omega
 intro r3 w3 hown3 hg3 _ hat3
 obtain ⟨ad3,c3,rfl⟩:=own_shape11 hown3
 have hb3:Boxed w3 bn tR v:=(hg3.block bn (by simp;omega) hne).trans ((Below.refl _ wd).alloc (Nat.le_refl _) _ |>.block bn (by have:=hbd.lt;omega) |>.trans hbd)
 have B3:Fr B bn W w3:=(hBd.alloc (by omega) (by omega) _).row (hrowd.alloc _) (hbd.alloc _) (by decide) hg3 (by simp;omega)
 have p3:=hb3.cell
 have f3:=hb3.frozen
 go_wp2_with fail
 refine lastC (by kernel_rfl) (by kernel_rfl) p3 (of_decide_eq_true (by kernel_rfl)) ?_
 refine any_seqI [9,10,11] [_,_,_] _ _ _ rfl (by kernel_rfl) ?_
 go_wp2_with fail
 go_end0
 have hne3:(Value.slice ad3 (n+1) c3).ownBlock≠some bn:=fun e=>by
  rcases hat3 with e1 | e1
  ·exact hne (by rw [← e1,e])
  ·rw [e] at e1;have e3:=Option.some.inj e1;have e4:=hbd.lt;simp at e3;omega
 refine ⟨rfl,⟨hB,_,hb3.set _,?_⟩,B3.set hB hb3 _ (by
  rw [vblk_of hb]
  rcases hat3 with e1 | e1
  ·exact .inl e1
  ·exact .inr ⟨_,e1,by simp;omega⟩)⟩
 rw [List.length_append,HN.out,iV_app]
 exact owns_keep7 hown3 _ (fun e=>hne3 e.symm)
theorem own_cut11 {W:World} {B g c n:Nat} {a:List Int} (h:HRow W B g c a) (hn:n≤a.length):W.ownsRow B 3 1 (.slice (some ⟨g,0,none⟩) n c) n (iV (a.take n)):=by
 rcases h.2 with ⟨e,_⟩ | ⟨g',cap,cur,e,h1,h2,h3,h4,h5,h6⟩
 ·cases e
 ·obtain ⟨e1,e2⟩:g=g'∧c=cap:=by simpa using e
  subst e1 e2
  refine ⟨by rw [iV_length,List.length_take];omega,.inr ⟨g,c,cur,rfl,h1,h2,by omega,h4,h5,?_⟩⟩
  have e3:cur.toList.take (n*1)=(cur.toList.take (a.length*1)).take (n*1):=by rw [List.take_take];congr 1;omega
  rw [e3,h6]
  unfold iV
  rw [List.map_take,Nat.mul_one]
set_option maxHeartbeats 2000000 in
theorem ppop11_any (W:World) (B bn:Nat) (a:List Int) (x:Int) (h:HpS W B bn (a++[x])) (hn:a.length < 17592186044416) :
 Calls Tryz.prog 333 #[.pointer (some ⟨bn,0,none⟩)] W fun e W'=>e=.returned (.iface 3 (.int .i64 x))∧HpS W' B bn a∧Fr B bn W W':=by
 obtain ⟨hB,v,hb,hrow⟩:=h
 have hne:=block_not_row hb (by decide) hrow
 rcases hrow.2 with ⟨_,e0⟩ | ⟨g,cp,cur,rfl,hbase,hbg,k1,k2,k3,k4⟩
 ·simp at e0
 have hR:HRow W B g cp (a++[x]):=hrow
 have hcut:=own_cut11 (n:=a.length) hR (by simp)
 have c1:=hR.cell a.length (by simp)
 have e1:hg (a++[x]) a.length=x:=by simp [hg]
 rw [e1] at c1
 rw [List.take_left' rfl] at hcut
 rw [List.length_append] at hb hrow k1
 simp only [List.length_singleton] at hb hrow k1
 have HE:Hid (HpS (W.setCell ⟨bn,0,none⟩ (.slice (some ⟨g,0,none⟩) a.length cp)) B bn a):=⟨hB,_,hb.set _,owns_keep7 hcut _ (fun e=>hne (by rw [e];simp [Value.ownBlock]))⟩
 obtain ⟨n,hnn⟩:∃ n,a.length=n:=⟨_,rfl⟩
 rw [hnn] at hb c1 hn k1 HE
 have Hbx:Hid (Boxed W bn tR (.slice (some ⟨g,0,none⟩) (n+1) cp)):=hb
 have p0:=hb.cell
 have f0:=hb.frozen
 have k2':cp≤9223372036854775807:=by unfold maxLen at k2;omega
 clear hnn hrow hcut hR e1 k2 k3 k4
 have j1:(n:Int) < (n:Int)+1:=by omega
 have j2:(n:Int)≤(cp:Int):=by omega
 have j3:n≤cp:=by omega
 have w1:IntKind.i64.wrap ((n:Int)+1 - 1)=(n:Int):=by rw [IntKind.wrap_i64];omega
 go_enter Tryz.func333,Tryz.ntmps333
 go_wp2_with fail
 go_ret
 exact ⟨rfl,HE.out,(Fr.refl _ _ _).set hB Hbx.out _ (.inl (by rw [vblk_of Hbx.out];rfl))⟩
def st1 (c:Cnt) (x:Int):Cnt:=match c x with
 | none=>c
 | some p=>updC c x (p.1 - 1,p.2)
def st2 (c:Cnt) (x:Int):Cnt:=match c x with
 | none=>c
 | some p=>updC c x (p.1,p.2 - 1)
def s1 (c:Cnt) (X:List Int) (i:Nat):Cnt:=(X.take i).foldl st1 c
def s2 (c:Cnt) (X:List Int) (i:Nat):Cnt:=(X.take i).foldl st2 c
theorem fin_prefix {n:Nat} {pre:List (Fin n)} {x:Fin n} (h:pre++[x] <+: List.finRange n):pre <+: List.finRange n∧x.val=pre.length∧pre.length < n:=by
 have hl:=h.length_le
 rw [List.length_append,List.length_finRange] at hl
 have h1:pre <+: List.finRange n:=(List.prefix_append _ _).trans h
 refine ⟨h1,?_,by simp at hl;omega⟩
 have h2:=List.IsPrefix.getElem h (i:=pre.length) (by simp)
 rw [List.getElem_append_right (Nat.le_refl _)] at h2
 simp at h2
 rw [h2]
theorem fin_take {n k:Nat} (hk:k < n):(List.finRange n).take (k+1)=(List.finRange n).take k++[⟨k,hk⟩]:=by
 rw [List.take_succ_eq_append_getElem (by rw [List.length_finRange];exact hk),List.getElem_finRange]
 rfl
open Go.RowKit Go.Shelf
abbrev ixV (h:List Ev) (i:Fin h.length):Array Value:=#[.int .i64 (i.val:Int),evW h[i.val]]
def KpE (n b:Nat) (W W':World):Prop:=Below n W W'∧W'.heap[b]?=W.heap[b]?
theorem kpE_t {n b:Nat} {A B C:World} (h:KpE n b A B) (k:KpE n b B C):KpE n b A C:=⟨h.1.trans k.1,k.2.trans h.2⟩
theorem kpE_b {n b:Nat} {w:World} (hn:n≤w.heap.size) (hb:b < w.heap.size) (W:World) (l:Nat) (o o':Obj) (hl:w.heap.size≤l) (h:W.heap[l]?=some o) (h1:o.isCells=false) (h2:o.isWalk=false):KpE n b W (W.putObj l o') :=
 ⟨belowK_b hn W l o o' hl h h1 h2,World.putObj_heap_other (by omega)⟩
theorem boxed_below7 {W W':World} {B:Nat} {t:TypeId} {v:Value} (h:Boxed W B t v) (b:Below W.heap.size W W'):Boxed W' B t v:=(b.block B h.lt).trans h
end Go.Proofs.YtkkenfhlgpjmjaaGreatDoor
