/-
  Steps in rows (two numbers and a row of edges an element): of no program but for the types. Whether an edge holds, as it is told and as it is meant: in lists. C
-/
import Derived.Test.YthamoeekiglphaaGreatDoorDL0a
import Derived.SizedLaws
import Derived.SliceStrings
import Derived.Deep.Cut
import Derived.Lib.AppendStr
import Derived.Lib.UnsafeStr
namespace Go.Proofs.YthamoeekiglphaaGreatDoor
set_option maxRecDepth 100000
open Go.RowKit
set_option linter.unusedVariables false
abbrev SVt:=Int × Int × Value
def stV (x:SVt):List Value:=[.int .i64 x.1,.int .i64 x.2.1,x.2.2]
theorem stV_len (x:SVt):(stV x).length=3:=rfl
theorem st_info:(Tryz.prog.info? 113).map (fun i=>(i.zero,i.size,i.bytes))=some (some (.agg #[.int .i64 0,.int .i64 0,.slice none 0 0]),3,40):=by kernel_rfl
structure StAt (W:World) (x:SVt) (s:Stp):Prop where
 from_:x.1=s.1
 to_:x.2.1=s.2.1
 eds:IsEds W x.2.2 s.2.2
def StOf (W:World) (L':List SVt) (L:List Stp):Prop:=L'.length=L.length∧∀ (i:Nat) x s,L'[i]?=some x→L[i]?=some s→StAt W x s
def IsSts (W:World) (v:Value) (L:List Stp):Prop:=∃ L',IsRec 3 stV W v L'∧StOf W L' L
def StRow (t:TypeId) (w:World) (L:List Stp) (e:Ending) (w':World):Prop:=∃ v L',e=.returned v∧Below w.heap.size w w'∧w'.ownsRow w.heap.size t 3 v L'.length (recV stV L')∧StOf w' L' L
theorem StOf.below {W W':World} {L':List SVt} {L:List Stp} (h:StOf W L' L) (hb:Below W.heap.size W W'):StOf W' L' L :=
 ⟨h.1,fun i x s hx hs=>⟨(h.2 i x s hx hs).from_,(h.2 i x s hx hs).to_,(h.2 i x s hx hs).eds.below hb⟩⟩
theorem IsSts.below {W W':World} {v:Value} {L:List Stp} (h:IsSts W v L) (hb:Below W.heap.size W W'):IsSts W' v L:=by
 obtain ⟨L',h1,h2⟩:=h
 exact ⟨L',h1.below hb,h2.below hb⟩
theorem IsSts.own {W:World} {B e:Nat} {v:Value} {L':List SVt} {L:List Stp} (h:W.ownsRow B e 3 v L'.length (recV stV L')) (hs:StOf W L' L) (hn:L'.length≤140737488351232):IsSts W v L :=
 ⟨L',IsRec.own stV_len (by omega) h hn,hs⟩
theorem IsSts.reads {W:World} {v:Value} {L:List Stp} (h:IsSts W v L):∃ a cap,v=.slice a L.length cap∧L.length≤cap∧cap≤9223372036854775807∧L.length≤140737488351232 ∧
 Hid (∀ k (hk:k < L.length),∃ b off,a=some ⟨b,off,none⟩∧∃ u,IsEds W u L[k].2.2∧∀ V,Below W.heap.size W V→V.cell? ⟨b,off+k*3,none⟩=some (.int .i64 L[k].1)∧V.cell? ⟨b,off+k*3+1,none⟩=some (.int .i64 L[k].2.1)∧V.cell? ⟨b,off+k*3+2,none⟩=some u):=by
 obtain ⟨L',h1,h2⟩:=h
 obtain ⟨a,cap,rfl,a1,a2,a3,HC⟩:=h1.some_at
 have hl:=h2.1
 rw [hl] at a1 a3
 refine ⟨a,cap,by rw [hl],a1,a2,a3,?_⟩
 intro k hk
 have hk':k < L'.length:=by omega
 obtain ⟨b,off,rfl,hlt,hc⟩:=HC.out k hk'
 have g:=h2.2 k _ _ (List.getElem?_eq_getElem hk') (List.getElem?_eq_getElem hk)
 refine ⟨b,off,rfl,L'[k].2.2,g.eds,fun V hV=>?_⟩
 rw [← g.from_,← g.to_]
 exact ⟨(hV.cell (p:=⟨b,off+k*3,none⟩) hlt).trans (hc 0 _ rfl),(hV.cell (p:=⟨b,off+k*3+1,none⟩) hlt).trans (hc 1 _ rfl),(hV.cell (p:=⟨b,off+k*3+2,none⟩) hlt).trans (hc 2 _ rfl)⟩
def EdB (W:World) (v:Value) (l:List Ed):Prop:=∃ b,v=.slice (some ⟨b,0,none⟩) l.length l.length∧W.heap[b]?=some (.cells (recV edV l).toArray 32 (0,0))
theorem EdB.eds {W:World} {v:Value} {l:List Ed} (h:EdB W v l) (hl:l.length≤1000):IsEds W v l:=by
 obtain ⟨b,rfl,hb⟩:=h
 refine ⟨_,_,_,rfl,rfl,Nat.le_refl _,by omega,by omega,.inr ⟨b,0,rfl,(Array.getElem?_eq_some_iff.1 hb).1,fun i hi j u hu=>?_⟩⟩
 have hj:j < 5:=by rw [← edV_len l[i]];exact (List.getElem?_eq_some_iff.1 hu).1
 rw [cell_of_block hb,Nat.zero_add,List.getElem?_toArray,recV_get edV_len l i hi j hj]
 exact hu
theorem EdB.kept {W W':World} {v r:Value} {l:List Ed} {B e k n:Nat} {xs:List Value} (h:EdB W v l) (hr:W.ownsRow B e k r n xs) (hte:32≠e) (hg:W.grownBy W' r.ownBlock):EdB W' v l:=by
 obtain ⟨b,rfl,hb⟩:=h
 exact ⟨b,rfl,(hg.block b (Array.getElem?_eq_some_iff.1 hb).1 (block_not_row hb hte hr)).trans hb⟩
theorem EdB.below {W W':World} {v:Value} {l:List Ed} (h:EdB W v l) (hb:Below W.heap.size W W'):EdB W' v l:=by
 obtain ⟨b,rfl,hh⟩:=h
 exact ⟨b,rfl,(hb.block b (Array.getElem?_eq_some_iff.1 hh).1).trans hh⟩
theorem EdB.new (W:World) (l:List Ed):EdB (W.alloc (.cells (recV edV l).toArray 32)) (.slice (some ⟨W.heap.size,0,none⟩) l.length l.length) l:=⟨W.heap.size,rfl,World.alloc_heap_new W _⟩
def StB (W:World) (L':List SVt) (L:List Stp):Prop:=L'.length=L.length∧∀ (i:Nat) x s,L'[i]?=some x→L[i]?=some s→x.1=s.1∧x.2.1=s.2.1∧EdB W x.2.2 s.2.2∧s.2.2.length≤2
theorem StB.nil (W:World):StB W [] []:=⟨rfl,fun i x s h=>by simp at h⟩
theorem StB.of {W:World} {L':List SVt} {L:List Stp} (h:StB W L' L):StOf W L' L :=
 ⟨h.1,fun i x s hx hs=>by obtain ⟨a,b,c,d⟩:=h.2 i x s hx hs;exact ⟨a,b,c.eds (by omega)⟩⟩
theorem StB.below {W W':World} {L':List SVt} {L:List Stp} (h:StB W L' L) (hb:Below W.heap.size W W'):StB W' L' L :=
 ⟨h.1,fun i x s hx hs=>by obtain ⟨a,b,c,d⟩:=h.2 i x s hx hs;exact ⟨a,b,c.below hb,d⟩⟩
theorem StB.push {wd w3:World} {L':List SVt} {L:List Stp} {B e n:Nat} {r:Value} {xs:List Value} (h:StB wd L' L) (hrow:wd.ownsRow B e 3 r n xs) (hte:32≠e) (es:List Ed) (h2:es.length≤2) (a b:Int) (T:Obj)
 (hg:((wd.alloc (.cells (recV edV es).toArray 32)).alloc T).grownBy w3 r.ownBlock):StB w3 (L'++[(a,b,.slice (some ⟨wd.heap.size,0,none⟩) es.length es.length)]) (L++[(a,b,es)]):=by
 have hb:Below wd.heap.size wd ((wd.alloc (.cells (recV edV es).toArray 32)).alloc T):=((Below.refl _ wd).alloc (Nat.le_refl _) _).alloc (by simp) _
 have hr2:=(hrow.alloc (.cells (recV edV es).toArray 32)).alloc T
 refine ⟨by simp [h.1],fun i x s hx hs=>?_⟩
 rcases Nat.lt_or_ge i L'.length with hi | hi
 ·rw [List.getElem?_append_left hi] at hx
  rw [List.getElem?_append_left (by rw [← h.1];exact hi)] at hs
  obtain ⟨p,q,c,d⟩:=h.2 i x s hx hs
  exact ⟨p,q,(c.below hb).kept hr2 hte hg,d⟩
 ·rw [List.getElem?_append_right hi] at hx
  rw [List.getElem?_append_right (by rw [← h.1];exact hi)] at hs
  rw [h.1] at hx
  rcases Nat.eq_zero_or_pos (i - L.length) with h0 | h0
  ·rw [h0] at hx hs
   simp only [List.getElem?_cons_zero,Option.some.injEq] at hx hs
   subst hx hs
   exact ⟨rfl,rfl,((EdB.new wd es).below ((Below.refl _ _).alloc (Nat.le_refl _) T)).kept hr2 hte hg,h2⟩
  ·rw [List.getElem?_eq_none (by simp;omega)] at hx
   cases hx
def sTo (level:Int) (l:List Ed) (k:Nat):List Stp:=(l.take k).flatMap (stepOf level l)
def sIn (l:List Ed) (e:Ed) (k:Nat):List Stp:=(l.take k).filterMap fun g=>if g.1=3∧g.2.1=e.2.2.1 then some (two2 e g) else none
theorem sTo_all (level:Int) (l:List Ed):sTo level l l.length=stepsL level l:=by unfold sTo stepsL;rw [List.take_length]
theorem sTo_next (level:Int) (l:List Ed) (k:Nat) (hk:k < l.length):sTo level l (k+1)=sTo level l k++stepOf level l l[k]:=by
 unfold sTo
 rw [List.take_succ_eq_append_getElem hk,List.flatMap_append]
 simp
theorem sIn_all (l:List Ed) (e:Ed):sIn l e l.length=l.filterMap fun g=>if g.1=3∧g.2.1=e.2.2.1 then some (two2 e g) else none:=by unfold sIn;rw [List.take_length]
theorem sIn_yes (l:List Ed) (e:Ed) (k:Nat) (hk:k < l.length) (h:l[k].1=3∧l[k].2.1=e.2.2.1):sIn l e (k+1)=sIn l e k++[two2 e l[k]]:=by
 unfold sIn
 rw [List.take_succ_eq_append_getElem hk,List.filterMap_append]
 congr 1
 simp [h]
theorem sIn_no (l:List Ed) (e:Ed) (k:Nat) (hk:k < l.length) (h:¬ (l[k].1=3∧l[k].2.1=e.2.2.1)):sIn l e (k+1)=sIn l e k:=by
 unfold sIn
 rw [List.take_succ_eq_append_getElem hk,List.filterMap_append]
 rw [show [l[k]].filterMap (fun g=>if g.1=3∧g.2.1=e.2.2.1 then some (two2 e g) else none)=[] by
  rw [List.filterMap_cons,if_neg h];rfl]
 simp
theorem stepOf_1 (l:List Ed) (e:Ed):stepOf 1 l e=[one1 e]:=by unfold stepOf;simp
theorem stepOf_2 (l:List Ed) (e:Ed) (h:e.1≠3):stepOf 2 l e=one1 e::l.filterMap fun g=>if g.1=3∧g.2.1=e.2.2.1 then some (two2 e g) else none:=by unfold stepOf;simp [h]
theorem stepOf_23 (l:List Ed) (e:Ed) (h:e.1=3):stepOf 2 l e=[]:=by unfold stepOf;simp [h]
theorem stepOf_o (level:Int) (l:List Ed) (e:Ed) (h1:level≠1) (h2:level≠2):stepOf level l e=[]:=by unfold stepOf;simp [h1,h2]
theorem recS_snoc (L:List SVt) (x:SVt):recV stV (L++[x])=recV stV L++[.int .i64 x.1,.int .i64 x.2.1,x.2.2]:=by rw [recV_append];rfl
theorem IsEds.at {w:World} {b off:Nat} {l:List Ed} {k:Nat} (hk:k < l.length) (h:∀ j u,(edV l[k])[j]?=some u→w.cell? ⟨b,off+k*5+j,none⟩=some u) :
 w.cell? ⟨b,off+k*5,none⟩=some (.int .i64 l[k].1)∧w.cell? ⟨b,off+k*5+1,none⟩=some (.int .i64 l[k].2.1)∧w.cell? ⟨b,off+k*5+2,none⟩=some (.int .i64 l[k].2.2.1)∧w.cell? ⟨b,off+k*5+3,none⟩=some (.int .i64 l[k].2.2.2.1)∧w.cell? ⟨b,off+k*5+4,none⟩=some (.int .i64 l[k].2.2.2.2) :=
 ⟨h 0 _ rfl,h 1 _ rfl,h 2 _ rfl,h 3 _ rfl,h 4 _ rfl⟩
theorem IsEds.reads {w:World} {v:Value} {l:List Ed} (hT:IsEds w v l):∃ a cap,v=.slice a l.length cap∧l.length≤cap∧cap≤9223372036854775807∧l.length≤140737488351232 ∧
 Hid (0 < l.length→∃ b off,a=some ⟨b,off,none⟩∧Hid (∀ j (hj:j < l.length),∀ V,Below w.heap.size w V→V.cell? ⟨b,off+j*5,none⟩=some (.int .i64 l[j].1)∧V.cell? ⟨b,off+j*5+1,none⟩=some (.int .i64 l[j].2.1)∧V.cell? ⟨b,off+j*5+2,none⟩=some (.int .i64 l[j].2.2.1)∧V.cell? ⟨b,off+j*5+3,none⟩=some (.int .i64 l[j].2.2.2.1)∧V.cell? ⟨b,off+j*5+4,none⟩=some (.int .i64 l[j].2.2.2.2))):=by
 obtain ⟨a,cap,rfl,h1,h2,h3,HC⟩:=hT.some_at
 refine ⟨a,cap,rfl,h1,h2,h3,?_⟩
 intro h0
 obtain ⟨b,off,rfl,hlt,_⟩:=HC.out 0 h0
 refine ⟨b,off,rfl,?_⟩
 intro j hj V hV
 obtain ⟨b',off',hbo,_,hc⟩:=HC.out j hj
 obtain ⟨rfl,rfl⟩:b=b'∧off=off':=by simpa using hbo
 obtain ⟨s0,s1,s2,s3,s4⟩:=IsEds.at hj hc
 exact ⟨(hV.cell (p:=⟨b,off+j*5,none⟩) hlt).trans s0,(hV.cell (p:=⟨b,off+j*5+1,none⟩) hlt).trans s1,(hV.cell (p:=⟨b,off+j*5+2,none⟩) hlt).trans s2,(hV.cell (p:=⟨b,off+j*5+3,none⟩) hlt).trans s3,(hV.cell (p:=⟨b,off+j*5+4,none⟩) hlt).trans s4⟩
def holdsK (h:List Ev) (k f t:Int) (x y:Ev) (a b:Nat):Bool :=
 if x.2.2.1≠y.2.2.1 then false else if x.2.1≠f then false else if y.2.1≠t then false else
 if k=1 then decide (x.1=3)&&decide (y.1=3)&&decide (a < b)
 else if k=2 then decide (x.1=3)&&decide (y.1=2)&&decide (x.2.2.2=y.2.2.2)
 else if k≠3 then false else if x.1≠2 then false else if y.1≠3 then false else if x.2.2.2=[] then true else
 match writerL h x.2.2.1 x.2.2.2 with
 | none=>false
 | some w=>if tx h w=t then false else match commL h (tx h w) with
   | none=>false
   | some c=>decide (c < b)
def holdsC (h:List Ev) (e:Ed):Bool :=
 match commL h e.2.1 with
 | none=>false
 | some a=>match commL h e.2.2.1 with
   | none=>false
   | some b=>if e.2.1=e.2.2.1 then false else if e.2.2.2.1 < 0 then false else if (h.length:Int)≤e.2.2.2.1 then false else if e.2.2.2.2 < 0 then false else if (h.length:Int)≤e.2.2.2.2 then false else
     holdsK h e.1 e.2.1 e.2.2.1 (ev h e.2.2.2.1.toNat) (ev h e.2.2.2.2.toNat) a b
theorem holdsK_iff (h:List Ev) (k f t:Int) (x y:Ev) (a b:Nat):holdsK h k f t x y a b=true↔x.2.2.1=y.2.2.1∧x.2.1=f∧y.2.1=t∧((k=1∧x.1=3∧y.1=3∧a < b)∨(k=2∧x.1=3∧y.1=2∧x.2.2.2=y.2.2.2)∨(k=3∧x.1=2∧y.1=3∧(x.2.2.2=[]∨∃ w c,writerL h x.2.2.1 x.2.2.2=some w∧tx h w≠t∧commL h (tx h w)=some c∧c < b))):=by
 unfold holdsK
 by_cases h1:x.2.2.1=y.2.2.1
 ·rw [if_neg (fun hh=>hh h1)]
  by_cases h2:x.2.1=f
  ·rw [if_neg (fun hh=>hh h2)]
   by_cases h3:y.2.1=t
   ·rw [if_neg (fun hh=>hh h3)]
    by_cases k1:k=1
    ·rw [if_pos k1]
     simp only [Bool.and_eq_true,decide_eq_true_eq]
     subst k1
     exact ⟨fun hh=>⟨h1,h2,h3,Or.inl ⟨rfl,hh.1.1,hh.1.2,hh.2⟩⟩,fun hh=>by
      rcases hh.2.2.2 with hh | hh | hh
      ·exact ⟨⟨hh.2.1,hh.2.2.1⟩,hh.2.2.2⟩
      ·exact absurd hh.1 (by decide)
      ·exact absurd hh.1 (by decide)⟩
    ·rw [if_neg k1]
     by_cases k2:k=2
     ·rw [if_pos k2]
      simp only [Bool.and_eq_true,decide_eq_true_eq]
      subst k2
      exact ⟨fun hh=>⟨h1,h2,h3,Or.inr (Or.inl ⟨rfl,hh.1.1,hh.1.2,hh.2⟩)⟩,fun hh=>by
       rcases hh.2.2.2 with hh | hh | hh
       ·exact absurd hh.1 (by decide)
       ·exact ⟨⟨hh.2.1,hh.2.2.1⟩,hh.2.2.2⟩
       ·exact absurd hh.1 (by decide)⟩
     ·rw [if_neg k2]
      by_cases k3:k=3
      ·rw [if_neg (fun hh=>hh k3)]
       by_cases x2:x.1=2
       ·rw [if_neg (fun hh=>hh x2)]
        by_cases y3:y.1=3
        ·rw [if_neg (fun hh=>hh y3)]
         by_cases v0:x.2.2.2=[]
         ·rw [if_pos v0]
          exact ⟨fun _=>⟨h1,h2,h3,Or.inr (Or.inr ⟨k3,x2,y3,Or.inl v0⟩)⟩,fun _=>rfl⟩
         ·rw [if_neg v0]
          constructor
          ·intro hh
           cases hw:writerL h x.2.2.1 x.2.2.2 with
           | none=>rw [hw] at hh;cases hh
           | some w =>
             rw [hw] at hh
             simp only at hh
             by_cases ht:tx h w=t
             ·rw [if_pos ht] at hh;cases hh
             ·rw [if_neg ht] at hh
              cases hc:commL h (tx h w) with
              | none=>rw [hc] at hh;cases hh
              | some c =>
                rw [hc] at hh
                simp only [decide_eq_true_eq] at hh
                exact ⟨h1,h2,h3,Or.inr (Or.inr ⟨k3,x2,y3,Or.inr ⟨w,c,rfl,ht,hc,hh⟩⟩)⟩
          ·rintro ⟨_,_,_,hh | hh | hh⟩
           ·exact absurd hh.1 k1
           ·exact absurd hh.1 k2
           ·obtain ⟨_,_,_,e | ⟨w,c,hw,ht,hc,hb⟩⟩:=hh
            ·exact absurd e v0
            ·rw [hw]
             simp only
             rw [if_neg ht,hc]
             exact decide_eq_true hb
        ·rw [if_pos y3]
         exact ⟨fun hh=>(by cases hh),fun hh=>by
          rcases hh.2.2.2 with hh | hh | hh
          ·exact absurd hh.1 k1
          ·exact absurd hh.1 k2
          ·exact absurd hh.2.2.1 y3⟩
       ·rw [if_pos x2]
        exact ⟨fun hh=>(by cases hh),fun hh=>by
         rcases hh.2.2.2 with hh | hh | hh
         ·exact absurd hh.1 k1
         ·exact absurd hh.1 k2
         ·exact absurd hh.2.1 x2⟩
      ·rw [if_pos k3]
       exact ⟨fun hh=>(by cases hh),fun hh=>by
        rcases hh.2.2.2 with hh | hh | hh
        ·exact absurd hh.1 k1
        ·exact absurd hh.1 k2
        ·exact absurd hh.1 k3⟩
   ·rw [if_pos h3];exact ⟨fun hh=>(by cases hh),fun hh=>absurd hh.2.2.1 h3⟩
  ·rw [if_pos h2];exact ⟨fun hh=>(by cases hh),fun hh=>absurd hh.2.1 h2⟩
 ·rw [if_pos h1];exact ⟨fun hh=>(by cases hh),fun hh=>absurd hh.1 h1⟩
theorem holdsC_iff (h:List Ev) (e:Ed):holdsC h e=true↔holdsL h e:=by
 obtain ⟨k,f,t,I,J⟩:=e
 unfold holdsC holdsL
 simp only
 cases ca:commL h f with
 | none=>exact ⟨fun hh=>(by cases hh),fun ⟨a,b,i,j,h1,_⟩=>by cases h1⟩
 | some a =>
   cases cb:commL h t with
   | none=>exact ⟨fun hh=>(by cases hh),fun ⟨a,b,i,j,_,h1,_⟩=>by cases h1⟩
   | some b =>
     simp only
     by_cases g1:f=t
     ·rw [if_pos g1];exact ⟨fun hh=>(by cases hh),fun ⟨_,_,_,_,_,_,h1,_⟩=>absurd g1 h1⟩
     ·rw [if_neg g1]
      by_cases g2:I < 0
      ·rw [if_pos g2];exact ⟨fun hh=>(by cases hh),fun ⟨_,_,i,_,_,_,_,h1,_⟩=>by omega⟩
      ·rw [if_neg g2]
       by_cases g3:(h.length:Int)≤I
       ·rw [if_pos g3];exact ⟨fun hh=>(by cases hh),fun ⟨_,_,i,_,_,_,_,h1,_,h2,_⟩=>by omega⟩
       ·rw [if_neg g3]
        by_cases g4:J < 0
        ·rw [if_pos g4];exact ⟨fun hh=>(by cases hh),fun ⟨_,_,_,j,_,_,_,_,h1,_⟩=>by omega⟩
        ·rw [if_neg g4]
         by_cases g5:(h.length:Int)≤J
         ·rw [if_pos g5];exact ⟨fun hh=>(by cases hh),fun ⟨_,_,_,j,_,_,_,_,h1,_,h2,_⟩=>by omega⟩
         ·rw [if_neg g5,holdsK_iff]
          constructor
          ·rintro ⟨h1,h2,h3,h4⟩
           exact ⟨a,b,I.toNat,J.toNat,rfl,rfl,g1,by omega,by omega,by omega,by omega,h1,h2,h3,h4⟩
          ·rintro ⟨a',b',i,j,e1,e2,_,e3,e4,_,_,h1,h2,h3,h4⟩
           cases e1
           cases e2
           obtain rfl:I.toNat=i:=by omega
           obtain rfl:J.toNat=j:=by omega
           exact ⟨h1,h2,h3,h4⟩
def ndOf (h:List Ev) (j:Nat):Option Int:=if commL h ((j:Int) - 1)=none then none else some ((j:Int) - 1)
def ndL (h:List Ev) (k:Nat):List Int:=(List.range k).filterMap (ndOf h)
def nodeL (h:List Ev):List Int:=ndL h 301
theorem nd_next (h:List Ev) (k:Nat):ndL h (k+1)=ndL h k++(ndOf h k).toList:=by
 unfold ndL
 rw [List.range_succ,List.filterMap_append]
 cases hl:ndOf h k with
 | none=>simp [hl]
 | some x=>simp [hl]
theorem nd_len (h:List Ev) (k:Nat):(ndL h k).length≤k:=by
 unfold ndL
 have:=List.length_filterMap_le (ndOf h) (List.range k)
 rwa [List.length_range] at this
theorem comm_has (h:List Ev) (t:Int) (hf:fstL h t h.length=none):commL h t=none:=by
 cases hc:commL h t with
 | none=>rfl
 | some e =>
   obtain ⟨he,_⟩:=(commL_some h t e).1 hc
   obtain ⟨e1,e2,_⟩:=(endL_some h t _ e).1 he
   exact absurd e2.1 ((fstL_none h t _).1 hf e e1)
abbrev Lf:=Int × Nat × Nat × Bool
abbrev lifA (x:Lf):Value:=.agg #[.int .i64 x.1,.int .i64 (x.2.1:Int),.int .i64 (x.2.2.1:Int),.bool x.2.2.2]
def findP (h:List Ev) (t:Int):Lf × Bool:=match findL h t with
 | none=>((0,0,0,false),false)
 | some x=>(x,true)
theorem size_lif:(Tryz.prog.info? 174).map (·.size)=some 4:=by kernel_rfl
def intV (n:Int):List Value:=[.int .i64 n]
theorem intV_len (n:Int):(intV n).length=1:=rfl
abbrev IsInts (w:World) (v:Value) (L:List Int):Prop:=IsRec 1 intV w v L
theorem int_info:(Tryz.prog.info? 3).map (fun i=>(i.zero,i.size,i.bytes))=some (some (.int .i64 0),1,8):=by kernel_rfl
def InRow (w:World) (L:List Int) (e:Ending) (w':World):Prop:=∃ v,e=.returned v∧Below w.heap.size w w'∧w'.ownsRow w.heap.size 3 1 v L.length (recV intV L)
theorem last_upto (h:List Ev) (t:Int) (key:List UInt8) (i:Nat) (hi:i≤h.length):lastL h t key (i:Int)=lastN h t key i:=by
 unfold lastL
 rw [Int.toNat_natCast,Nat.min_eq_right hi]
theorem last_end (h:List Ev) (t:Int) (key:List UInt8) (before:Int) (k:Nat) (hk:k≤h.length) (hb:k=0∨(k:Int)≤before) (he:k=h.length∨before≤(k:Int)):lastL h t key before=lastN h t key k:=by
 unfold lastL
 have:min h.length before.toNat=k:=by rw [Nat.min_def];split<;>omega
 rw [this]
def okN (t:Int):Prop:=-9223372036854775808≤t∧t≤9223372036854775807
def goodEd (x:Ed):Prop:=okN x.1∧okN x.2.1∧okN x.2.2.1∧okN x.2.2.2.1∧okN x.2.2.2.2
open Go.ChangeShapes Go.WideShapes Go.ChangeAt Go.RowKit
theorem okN_wf {n:Int} (h:(Lit.int .i64 n).wf=true):okN n:=i64_wf h
theorem ed_elem {H:Type} {enc:TypeId × Value→H} {W:World} (n:Nat) (cs':List Value) (d':DataW H) (p':List MemPlace) (hl:cs'.length=5) (h:DataW.trod enc Tryz.prog W 0 (fun _=>true) true n 32 cs'=some (d',p')):∃ x,cs'=edV x∧goodEd x:=by
 have hu:=Tryz.underlying32
 obtain ⟨xs,k,_,hx,hcl,hlen,hel⟩:=DataW.trod_struct hu h
 have hlen':xs.length=5:=hlen
 match xs,hlen',cs',hl with
 | [y0,y1,y2,y3,y4],_,[c0,c1,c2,c3,c4],_ =>
   have k3:Tryz.prog.cellsOf 3=1:=by kernel_rfl
   have g0:=hel 0 _ rfl
   have g1:=hel 1 _ rfl
   have g2:=hel 2 _ rfl
   have g3:=hel 3 _ rfl
   have g4:=hel 4 _ rfl
   simp [k3] at g0 g1 g2 g3 g4
   obtain ⟨n0,e0,rfl,w0⟩:=DataW.trod_int Tryz.underlying3 g0
   obtain ⟨n1,e1,rfl,w1⟩:=DataW.trod_int Tryz.underlying3 g1
   obtain ⟨n2,e2,rfl,w2⟩:=DataW.trod_int Tryz.underlying3 g2
   obtain ⟨n3,e3,rfl,w3⟩:=DataW.trod_int Tryz.underlying3 g3
   obtain ⟨n4,e4,rfl,w4⟩:=DataW.trod_int Tryz.underlying3 g4
   simp at e0 e1 e2 e3 e4
   subst e0 e1 e2 e3 e4
   exact ⟨(n0,n1,n2,n3,n4),rfl,okN_wf w0,okN_wf w1,okN_wf w2,okN_wf w3,okN_wf w4⟩
theorem ed_val {H:Type} {enc:TypeId × Value→H} {W:World} {r:Reach} {b0:Nat} {v:Value} {d:DataW H} {p:List MemPlace} (hv:Value.okWide Tryz.prog W r b0 32 v)
 (h:DataW.Trod enc Tryz.prog W 0 (fun _=>true) true 32 v d p):∃ x:Ed,v=.agg #[.int .i64 x.1,.int .i64 x.2.1,.int .i64 x.2.2.1,.int .i64 x.2.2.2.1,.int .i64 x.2.2.2.2]∧goodEd x:=by
 obtain ⟨cs,rfl,hsz⟩:=okWide_struct Tryz.underlying32 hv
 obtain ⟨fuel,hf⟩:=h
 have hc:Tryz.prog.cellsOf 32=5:=by kernel_rfl
 obtain ⟨x,hx,hg⟩:=ed_elem fuel cs.toList d p (by rw [Array.length_toList,hsz,hc]) (by simpa [Value.cells] using hf)
 refine ⟨x,?_,hg⟩
 have:cs=(edV x).toArray:=by rw [← hx]
 rw [this]
 rfl
end Go.Proofs.YthamoeekiglphaaGreatDoor
namespace Go.Proofs.YthamoeekiglphaaGreatDoor
set_option maxRecDepth 100000
set_option linter.unusedVariables false
def flatL (r:List Stp):List Ed:=r.flatMap fun s=>s.2.2
abbrev Vd:=Int × Bool × List Int × (Int × Int × Int) × List Ed
def zV:Vd:=(0,false,[],(0,0,0),[])
def judgeL (h:List Ev) (level:Int):Vd × Int :=
 if level≠1∧level≠2 then (zV,1)
 else if (formedL h).2≠0 then (zV,((formedL h).2:Int))
 else match badsL h with
  | b::_=>((level,false,[],b,[]),0)
  | []=>match orderL (nodeL h) (stepsL level (edgesL h)) with
    | some o=>((level,true,o,(0,0,0),[]),0)
    | none=>((level,false,[],(0,0,0),flatL ((ringL (stepsL level (edgesL h))).getD [])),0)
theorem judge_arg (h:List Ev) (level:Int) (h1:level≠1) (h2:level≠2):judgeL h level=(zV,1):=by unfold judgeL;rw [if_pos ⟨h1,h2⟩]
theorem judge_form (h:List Ev) (level:Int) (hl:level=1∨level=2) (hf:(formedL h).2≠0):judgeL h level=(zV,((formedL h).2:Int)):=by unfold judgeL;rw [if_neg (by omega),if_pos hf]
theorem judge_bad (h:List Ev) (level:Int) (hl:level=1∨level=2) (hf:(formedL h).2=0) (b:Int × Int × Int) (r:List (Int × Int × Int)) (hb:badsL h=b::r):judgeL h level=((level,false,[],b,[]),0):=by
 unfold judgeL
 rw [if_neg (by omega),if_neg (fun e=>e hf),hb]
theorem judge_order (h:List Ev) (level:Int) (hl:level=1∨level=2) (hf:(formedL h).2=0) (hb:badsL h=[]) (o:List Int) (ho:orderL (nodeL h) (stepsL level (edgesL h))=some o):judgeL h level=((level,true,o,(0,0,0),[]),0):=by
 unfold judgeL
 rw [if_neg (by omega),if_neg (fun e=>e hf),hb]
 simp only
 rw [ho]
theorem judge_ring (h:List Ev) (level:Int) (hl:level=1∨level=2) (hf:(formedL h).2=0) (hb:badsL h=[]) (ho:orderL (nodeL h) (stepsL level (edgesL h))=none):judgeL h level=((level,false,[],(0,0,0),flatL ((ringL (stepsL level (edgesL h))).getD [])),0):=by
 unfold judgeL
 rw [if_neg (by omega),if_neg (fun e=>e hf),hb]
 simp only
 rw [ho]
open Go.RowKit
abbrev Bd:=Int × Int × Int
def badV (x:Bd):List Value:=[.int .i64 x.1,.int .i64 x.2.1,.int .i64 x.2.2]
theorem badV_one (x:Bd):∀ u∈badV x,u.oneCell'=true:=by
 intro u hu
 simp [badV] at hu
 rcases hu with rfl | rfl | rfl<;>rfl
abbrev badA (x:Bd):Value:=.agg #[.int .i64 x.1,.int .i64 x.2.1,.int .i64 x.2.2]
theorem bad_info:(Tryz.prog.info? 24).map (fun i=>(i.zero,i.size,i.bytes))=some (some (.agg #[.int .i64 0,.int .i64 0,.int .i64 0]),3,24):=by kernel_rfl
theorem size_bad:(Tryz.prog.info? 24).map (·.size)=some 3:=by kernel_rfl
def BdRow (t:TypeId) (w:World) (L:List Bd) (e:Ending) (w':World):Prop:=∃ v,e=.returned v∧Below w.heap.size w w'∧w'.ownsRow w.heap.size t 3 v L.length (recV badV L)
def countI (h:List Ev) (i:Int):Bool:=decide (0≤i)&&countsB h i.toNat
def atI (h:List Ev) (i:Int):Bd:=if 0≤i then atL h i.toNat else (0,0,0)
def outerI (h:List Ev) (i:Int):Bool:=decide (0≤i)&&outerB h i.toNat
theorem count_out (h:List Ev) (i:Nat) (hi:¬ i < h.length):countsB h i=false:=by unfold countsB;rw [decide_eq_false hi];rfl
theorem count_kind (h:List Ev) (i:Nat) (hk:(ev h i).1≠2):countsB h i=false:=by unfold countsB;rw [decide_eq_false hk];simp
theorem count_open (h:List Ev) (i:Nat) (he:endL h (ev h i).2.1 h.length=none):countsB h i=false:=by
 unfold countsB commL
 rw [he]
 simp
theorem count_end (h:List Ev) (i e:Nat) (hi:i < h.length) (hk:(ev h i).1=2) (he:endL h (ev h i).2.1 h.length=some e):countsB h i=(decide (i < e)&&decide ((ev h e).1=4)):=by
 unfold countsB commL
 rw [he,decide_eq_true hi,decide_eq_true hk]
 simp only
 by_cases h4:(ev h e).1=4
 ·rw [if_pos h4,decide_eq_true h4];simp
 ·rw [if_neg h4,decide_eq_false h4];simp
theorem results_row1 {P:Program} {fn:Func} {p:Tmp} {ty:TypeId} (h:fn.results=#[.cell p ty]) (tmps:Array Value) (w:World) (g:Nat) (t:TypeId) (cs:Array Value) (fr:Nat × Nat) (d:TypeDesc)
 (hp:tmps.getD p undef=.pointer (some ⟨g,0,none⟩)) (hg:w.heap[g]?=some (.cells cs t fr))
 (hu:P.underlying ty=some d) (hd:(match d with | .struct _ | .array _ _=>true | _=>false)=true) (hi:(P.info? ty).map (·.size)=some cs.size) :
 (results fn tmps).run P w=.ok (.agg cs) w:=by
 have hp':tmps[p]?.getD undef=.pointer (some ⟨g,0,none⟩):=by simpa using hp
 simp [results,h,hp',asAddr,run_loadVar_row w g t ty cs fr d hg hu hd hi]
theorem SBox.put3 {w:World} {g:Nat} {t:TypeId} {p q r:Value} (h:SBox w g t #[p,q,r]) (a b c:Value):SBox (((w.setCell ⟨g,0,none⟩ a).setCell ⟨g,1,none⟩ b).setCell ⟨g,2,none⟩ c) g t #[a,b,c]:=((h.set 0 a).set 1 b).set 2 c
theorem bel_put3 {B:Nat} {a w:World} (h:Below B a w) {g:Nat} (hg:B≤g) (p q r:Value):Below B a (((w.setCell ⟨g,0,none⟩ p).setCell ⟨g,1,none⟩ q).setCell ⟨g,2,none⟩ r) :=
 ((h.setCell (p:=⟨g,0,none⟩) hg p).setCell (p:=⟨g,1,none⟩) hg q).setCell (p:=⟨g,2,none⟩) hg r
attribute [local go_sem] ba_size
abbrev vdC (v:Vd) (vo vr:Value):Array Value:=#[.int .i64 v.1,.bool v.2.1,vo,.int .i64 v.2.2.2.1.1,.int .i64 v.2.2.2.1.2.1,.int .i64 v.2.2.2.1.2.2,vr]
theorem size_vd:(Tryz.prog.info? 27).map (·.size)=some 7:=by kernel_rfl
def VRes (w:World) (r:Vd × Int) (e:Ending) (w':World):Prop:=∃ vo vr,e=.returned (.tuple #[.agg (vdC r.1 vo vr),.int .i64 r.2])∧Below w.heap.size w w' ∧
 w'.ownsRow w.heap.size 3 1 vo r.1.2.2.1.length (recV intV r.1.2.2.1)∧w'.ownsRow w.heap.size 32 5 vr r.1.2.2.2.2.length (recV edV r.1.2.2.2.2)
theorem SBox.put7 {W:World} {B t:Nat} {a b c d e f g:Value} (h:SBox W B t #[a,b,c,d,e,f,g]) (a' b' c' d' e' f' g':Value) :
 SBox (((((((W.setCell ⟨B,0,none⟩ a').setCell ⟨B,1,none⟩ b').setCell ⟨B,2,none⟩ c').setCell ⟨B,3,none⟩ d').setCell ⟨B,4,none⟩ e').setCell ⟨B,5,none⟩ f').setCell ⟨B,6,none⟩ g') B t #[a',b',c',d',e',f',g']:=by
 have h0:SBox (W.setCell ⟨B,0,none⟩ a') B t #[a',b,c,d,e,f,g]:=h.set 0 a'
 generalize W.setCell ⟨B,0,none⟩ a'=W0 at h0 ⊢
 have h1:SBox (W0.setCell ⟨B,1,none⟩ b') B t #[a',b',c,d,e,f,g]:=h0.set 1 b'
 generalize W0.setCell ⟨B,1,none⟩ b'=W1 at h1 ⊢
 have h2:SBox (W1.setCell ⟨B,2,none⟩ c') B t #[a',b',c',d,e,f,g]:=h1.set 2 c'
 generalize W1.setCell ⟨B,2,none⟩ c'=W2 at h2 ⊢
 have h3:SBox (W2.setCell ⟨B,3,none⟩ d') B t #[a',b',c',d',e,f,g]:=h2.set 3 d'
 generalize W2.setCell ⟨B,3,none⟩ d'=W3 at h3 ⊢
 have h4:SBox (W3.setCell ⟨B,4,none⟩ e') B t #[a',b',c',d',e',f,g]:=h3.set 4 e'
 generalize W3.setCell ⟨B,4,none⟩ e'=W4 at h4 ⊢
 have h5:SBox (W4.setCell ⟨B,5,none⟩ f') B t #[a',b',c',d',e',f',g]:=h4.set 5 f'
 generalize W4.setCell ⟨B,5,none⟩ f'=W5 at h5 ⊢
 exact h5.set 6 g'
theorem bel_put7 {n:Nat} {w W:World} {B:Nat} (h:Below n w W) (hb:n≤B) (a' b' c' d' e' f' g':Value) :
 Below n w (((((((W.setCell ⟨B,0,none⟩ a').setCell ⟨B,1,none⟩ b').setCell ⟨B,2,none⟩ c').setCell ⟨B,3,none⟩ d').setCell ⟨B,4,none⟩ e').setCell ⟨B,5,none⟩ f').setCell ⟨B,6,none⟩ g') :=
 ((((((h.setCell (p:=⟨B,0,none⟩) hb _).setCell (p:=⟨B,1,none⟩) hb _).setCell (p:=⟨B,2,none⟩) hb _).setCell (p:=⟨B,3,none⟩) hb _).setCell (p:=⟨B,4,none⟩) hb _).setCell (p:=⟨B,5,none⟩) hb _).setCell (p:=⟨B,6,none⟩) hb _
theorem owns_put7 {W:World} {A e k n B:Nat} {v:Value} {xs:List Value} (h:W.ownsRow A e k v n xs) (hne:some B≠v.ownBlock) (a' b' c' d' e' f' g':Value) :
 (((((((W.setCell ⟨B,0,none⟩ a').setCell ⟨B,1,none⟩ b').setCell ⟨B,2,none⟩ c').setCell ⟨B,3,none⟩ d').setCell ⟨B,4,none⟩ e').setCell ⟨B,5,none⟩ f').setCell ⟨B,6,none⟩ g').ownsRow A e k v n xs :=
 owns_keep7 (g:=B) (j:=6) (owns_keep7 (g:=B) (j:=5) (owns_keep7 (g:=B) (j:=4) (owns_keep7 (g:=B) (j:=3) (owns_keep7 (g:=B) (j:=2) (owns_keep7 (g:=B) (j:=1) (owns_keep7 (g:=B) (j:=0) h a' hne) b' hne) c' hne) d' hne) e' hne) f' hne) g' hne
theorem flat_next (l:List Stp) (k:Nat) (hk:k < l.length):flatL (l.take (k+1))=flatL (l.take k)++l[k].2.2:=by
 unfold flatL
 rw [List.take_succ_eq_append_getElem hk,List.flatMap_append]
 simp
theorem flat_take (l:List Stp) (k:Nat):(flatL (l.take k)).length≤(flatL l).length:=by
 have:flatL l=flatL (l.take k)++flatL (l.drop k):=by unfold flatL;rw [← List.flatMap_append,List.take_append_drop]
 rw [this,List.length_append]
 omega
theorem recE12_snoc (L:List Ed) (x:Ed):recV edV (L++[x])=recV edV L++edV x:=by rw [recV_append];simp [recV]
theorem getD_in {l:List Int} {k:Nat} (hk:k < l.length):l.getD k 0=l[k]:=by rw [List.getD_eq_getElem?_getD,List.getElem?_eq_getElem hk];rfl
open Go.ChangeShapes Go.WideShapes Go.ChangeAt Go.RowKit
theorem int_elem13 {H:Type} {enc:TypeId × Value→H} {W:World} (n:Nat) (cs':List Value) (d':DataW H) (p':List MemPlace) (hl:cs'.length=1) (h:DataW.trod enc Tryz.prog W 0 (fun _=>true) true n 3 cs'=some (d',p')):∃ x,cs'=intV x∧okN x:=by
 obtain ⟨n0,e0,hx,w0⟩:=DataW.trod_int Tryz.underlying3 h
 exact ⟨n0,by rw [e0];rfl,okN_wf w0⟩
theorem int_cells13 {H:Type} {enc:TypeId × Value→H} {W:World} {m:Nat} {c:Value} {d:DataW H} {p:List MemPlace}
 (hf:DataW.trod enc Tryz.prog W 0 (fun _=>true) true m 22 [c]=some (d,p)) (hw:(DataW.weights Tryz.prog 22 d).all (·≤ reachBytes)=true):∃ L:List Int,IsInts W c L∧(∀ x∈L,okN x)∧L.length*8≤reachBytes :=
 rec_cells (sz:=1) (rec:=intV) okN 8 Tryz.underlying22 (by kernel_rfl) (by omega) (by kernel_rfl) (by omega) (fun n cs' d' p' hl h hw'=>int_elem13 n cs' d' p' hl h) hf hw
theorem int_arg13 {H:Type} {enc:TypeId × Value→H} {W:World} {v:Value} {d:DataW H} {p:List MemPlace} (hv:∃ a n c,v=.slice a n c)
 (h:DataW.Trod enc Tryz.prog W 0 (fun _=>true) true 22 v d p) (hw:(DataW.weights Tryz.prog 22 d).all (·≤ reachBytes)=true):∃ L:List Int,IsInts W v L∧(∀ x∈L,okN x)∧L.length*8≤reachBytes:=by
 obtain ⟨a,n,c,rfl⟩:=hv
 obtain ⟨fuel,hf⟩:=h
 exact int_cells13 (by simpa [Value.cells] using hf) hw
end Go.Proofs.YthamoeekiglphaaGreatDoor
namespace Go.Proofs.YthamoeekiglphaaGreatDoor
set_option maxRecDepth 100000
set_option linter.unusedVariables false
abbrev Pf:=Int × Ev × List (List UInt8)
abbrev Ct:=List UInt8 × Int × List UInt8 × List UInt8 × Int × Vd × List Pf
def wrI (h:List Ev) (i:Int):Option Nat:=if 0≤i∧i < (h.length:Int)∧(ev h i.toNat).2.2.2≠[] then writerL h (ev h i.toNat).2.2.1 (ev h i.toNat).2.2.2 else none
def wrT (h:List Ev) (i:Int):Bool:=decide (0≤i∧i < (h.length:Int)∧(ev h i.toNat).2.2.2≠[])
def plE (h:List Ev) (e:Ed):List Int:=[e.2.2.2.1,e.2.2.2.2]++(if e.1=3 then (match wrI h e.2.2.2.1 with | some w=>[(w:Int)] | none=>[]) else [])
def enE (h:List Ev) (e:Ed):List Int:=[e.2.1,e.2.2.1]++(if e.1=3 then (match wrI h e.2.2.2.1 with | some w=>[tx h w] | none=>[]) else [])
def plB (h:List Ev) (b:Int × Int × Int):List Int:=[b.2.1,b.2.2]++(if wrT h b.2.1=true then [oI (writerL h (ev h b.2.1.toNat).2.2.1 (ev h b.2.1.toNat).2.2.2)] else [])
def inT (h:List Ev) (i:Int):Option Int:=if 0≤i∧i < (h.length:Int) then some (tx h i.toNat) else none
def enB (h:List Ev) (b:Int × Int × Int):List Int:=(plB h b).filterMap (inT h)
def plW (h:List Ev) (v:Vd):List Int:=if v.2.2.2.1.1≠0 then plB h v.2.2.2.1 else v.2.2.2.2.flatMap (plE h)
def enW (h:List Ev) (v:Vd):List Int:=if v.2.2.2.1.1≠0 then enB h v.2.2.2.1 else v.2.2.2.2.flatMap (enE h)
def endsAt (h:List Ev) (t n:Int):Bool:=match findL h t with
 | some y=>decide ((y.2.2.1:Int)=n)
 | none=>false
def wantB (h:List Ev) (v:Vd) (n:Int):Bool:=!v.2.1&&(decide (n∈plW h v) || (enW h v).any (fun t=>endsAt h t n))
def needN (h:List Ev) (v:Vd):List Nat:=(List.range h.length).filter fun n=>wantB h v (n:Int)
theorem need_in (h:List Ev) (v:Vd) (n:Nat) (hn:n∈needN h v):n < h.length:=List.mem_range.1 (List.mem_filter.1 hn).1
theorem need_len (h:List Ev) (v:Vd):(needN h v).length≤h.length:=by
 unfold needN
 exact Nat.le_trans (List.length_filter_le _ _) (by rw [List.length_range];exact Nat.le_refl _)
abbrev plM (i:Int):Prop:=0≤i∧i≤255
abbrev txM (n:Int):Prop:=1≤n∧n≤32
abbrev edM (e:Ed):Prop:=(1≤e.1∧e.1≤3)∧(txM e.2.1∧txM e.2.2.1)∧plM e.2.2.2.1∧plM e.2.2.2.2
abbrev pfM (p:Pf):Prop:=(plM p.1∧mayE p.2.1)∧p.2.2.length≤12∧∀ t∈p.2.2,t.length=32
abbrev vdM (v:Vd):Prop:=((1≤v.1∧v.1≤2)∧v.2.2.1.length≤32∧(0≤v.2.2.2.1.1∧v.2.2.2.1.1≤4)∧(plM v.2.2.2.1.2.1∧plM v.2.2.2.1.2.2)∧v.2.2.2.2.length≤128)∧(∀ n∈v.2.2.1,txM n)∧∀ e∈v.2.2.2.2,edM e
abbrev mayC (c:Ct):Prop:=((1≤c.1.length∧c.1.length≤16)∧(1≤c.2.1∧c.2.1≤1048576)∧(c.2.2.1.length=0∨c.2.2.1.length=32)∧c.2.2.2.1.length=32∧0≤c.2.2.2.2.1∧c.2.2.2.2.1≤256)∧vdM c.2.2.2.2.2.1∧c.2.2.2.2.2.2.length≤256∧∀ p∈c.2.2.2.2.2.2,pfM p
namespace Codec
end Codec
end Go.Proofs.YthamoeekiglphaaGreatDoor
namespace Go.Proofs.YthamoeekiglphaaGreatDoor
set_option maxRecDepth 100000
open Go.RowKit
set_option linter.unusedVariables false
attribute [local go_sem] ba_size
abbrev PVt:=Int × Ev × Value
def pfV (x:PVt):List Value:=[.int .i64 x.1,.int .i64 x.2.1.1,.int .i64 x.2.1.2.1,.string ⟨x.2.1.2.2.1.toArray⟩,.string ⟨x.2.1.2.2.2.toArray⟩,x.2.2]
theorem pfV_len (x:PVt):(pfV x).length=6:=rfl
structure PfAt (W:World) (x:PVt) (p:Pf):Prop where
 at_:x.1=p.1
 ev_:x.2.1=p.2.1
 path:IsTxt W x.2.2 p.2.2
def PfOf (W:World) (L':List PVt) (L:List Pf):Prop:=L'.length=L.length∧∀ (i:Nat) x s,L'[i]?=some x→L[i]?=some s→PfAt W x s
def IsPfs (W:World) (v:Value) (L:List Pf):Prop:=∃ L',IsRec 6 pfV W v L'∧PfOf W L' L
theorem PfOf.below {W W':World} {L':List PVt} {L:List Pf} (h:PfOf W L' L) (hb:Below W.heap.size W W'):PfOf W' L' L :=
 ⟨h.1,fun i x s hx hs=>⟨(h.2 i x s hx hs).at_,(h.2 i x s hx hs).ev_,(h.2 i x s hx hs).path.below hb⟩⟩
theorem IsPfs.below {W W':World} {v:Value} {L:List Pf} (h:IsPfs W v L) (hb:Below W.heap.size W W'):IsPfs W' v L:=by
 obtain ⟨L',h1,h2⟩:=h
 exact ⟨L',h1.below hb,h2.below hb⟩
theorem IsPfs.own {W:World} {B e:Nat} {v:Value} {L':List PVt} {L:List Pf} (h:W.ownsRow B e 6 v L'.length (recV pfV L')) (hs:PfOf W L' L) (hn:L'.length≤140737488351232):IsPfs W v L :=
 ⟨L',IsRec.own pfV_len (by omega) h hn,hs⟩
theorem IsPfs.len {W:World} {v:Value} {L:List Pf} (h:IsPfs W v L):∃ a cap,v=.slice a L.length cap∧L.length≤cap∧cap≤9223372036854775807∧L.length≤140737488351232:=by
 obtain ⟨L',h1,h2⟩:=h
 obtain ⟨a,cap,rfl,a1,a2,a3,_⟩:=h1.some_at
 rw [h2.1] at a1 a3 ⊢
 exact ⟨a,cap,rfl,a1,a2,a3⟩
theorem IsPfs.reads {W:World} {v:Value} {L:List Pf} (h:IsPfs W v L):∃ a cap,v=.slice a L.length cap∧L.length≤cap∧cap≤9223372036854775807∧L.length≤140737488351232 ∧
 Hid (∀ k (hk:k < L.length),∃ b off,a=some ⟨b,off,none⟩∧∃ u,IsTxt W u L[k].2.2∧∀ V,Below W.heap.size W V→V.cell? ⟨b,off+k*6,none⟩=some (.int .i64 L[k].1)∧V.cell? ⟨b,off+k*6+1,none⟩=some (.int .i64 L[k].2.1.1)∧V.cell? ⟨b,off+k*6+2,none⟩=some (.int .i64 L[k].2.1.2.1)∧V.cell? ⟨b,off+k*6+3,none⟩=some (.string ⟨L[k].2.1.2.2.1.toArray⟩)∧V.cell? ⟨b,off+k*6+4,none⟩=some (.string ⟨L[k].2.1.2.2.2.toArray⟩)∧V.cell? ⟨b,off+k*6+5,none⟩=some u):=by
 obtain ⟨L',h1,h2⟩:=h
 obtain ⟨a,cap,rfl,a1,a2,a3,HC⟩:=h1.some_at
 have hl:=h2.1
 rw [hl] at a1 a3
 refine ⟨a,cap,by rw [hl],a1,a2,a3,?_⟩
 intro k hk
 have hk':k < L'.length:=by omega
 obtain ⟨b,off,rfl,hlt,hc⟩:=HC.out k hk'
 have g:=h2.2 k _ _ (List.getElem?_eq_getElem hk') (List.getElem?_eq_getElem hk)
 refine ⟨b,off,rfl,L'[k].2.2,g.path,fun V hV=>?_⟩
 rw [← g.at_,← g.ev_]
 exact ⟨(hV.cell (p:=⟨b,off+k*6,none⟩) hlt).trans (hc 0 _ rfl),(hV.cell (p:=⟨b,off+k*6+1,none⟩) hlt).trans (hc 1 _ rfl),(hV.cell (p:=⟨b,off+k*6+2,none⟩) hlt).trans (hc 2 _ rfl),(hV.cell (p:=⟨b,off+k*6+3,none⟩) hlt).trans (hc 3 _ rfl),(hV.cell (p:=⟨b,off+k*6+4,none⟩) hlt).trans (hc 4 _ rfl),(hV.cell (p:=⟨b,off+k*6+5,none⟩) hlt).trans (hc 5 _ rfl)⟩
abbrev ctC (c:Ct) (vo vr vp:Value):Array Value:=#[.string ⟨c.1.toArray⟩,.int .i64 c.2.1,.string ⟨c.2.2.1.toArray⟩,.string ⟨c.2.2.2.1.toArray⟩,.int .i64 c.2.2.2.2.1,.int .i64 c.2.2.2.2.2.1.1,.bool c.2.2.2.2.2.1.2.1,vo,.int .i64 c.2.2.2.2.2.1.2.2.2.1.1,.int .i64 c.2.2.2.2.2.1.2.2.2.1.2.1,.int .i64 c.2.2.2.2.2.1.2.2.2.1.2.2,vr,vp]
structure CtAt (W:World) (c:Ct) (vo vr vp:Value):Prop where
 order:IsInts W vo c.2.2.2.2.2.1.2.2.1
 ring:IsEds W vr c.2.2.2.2.2.1.2.2.2.2
 proofs:IsPfs W vp c.2.2.2.2.2.2
theorem CtAt.below {W W':World} {c:Ct} {vo vr vp:Value} (h:CtAt W c vo vr vp) (hb:Below W.heap.size W W'):CtAt W' c vo vr vp:=⟨h.order.below hb,h.ring.below hb,h.proofs.below hb⟩
def CtRes (w:World) (r:Ct × Int) (e:Ending) (w':World):Prop:=∃ vo vr vp,e=.returned (.tuple #[.agg (ctC r.1 vo vr vp),.int .i64 r.2])∧Below w.heap.size w w'∧CtAt w' r.1 vo vr vp
end Go.Proofs.YthamoeekiglphaaGreatDoor
namespace Go.Proofs.YthamoeekiglphaaGreatDoor
set_option maxRecDepth 100000
set_option linter.unusedVariables false
abbrev Pe:=Int × Ev
def peAt (l:List Pe) (i:Int):Option Pe:=l.find? fun p=>decide (p.1=i)
def peEnd (l:List Pe) (t:Int):Option Pe:=l.find? fun p=>decide (p.2.2.1=t∧(p.2.1=4∨p.2.1=5))
def peComm (l:List Pe) (t:Int):Option Int :=
 match peEnd l t with
 | none=>none
 | some p=>if p.2.1=4∧0≤p.1 then some p.1 else none
def peWr (l:List Pe) (key val:List UInt8):Option Pe:=l.find? fun p=>decide (p.2.1=3∧p.2.2.2.1=key∧p.2.2.2.2=val)
def trueOf (h:List Ev) (l:List Pe):Prop:=∀ p∈l,∃ i:Nat,p.1=(i:Int)∧i < h.length∧p.2=ev h i
def endsOnce (h:List Ev):Prop:=∀ i j,i < h.length→j < h.length→((ev h i).1=4∨(ev h i).1=5)→((ev h j).1=4∨(ev h j).1=5)→(ev h i).2.1=(ev h j).2.1→i=j
def valsOnce (h:List Ev):Prop:=∀ i j,i < h.length→j < h.length→(ev h i).1=3→(ev h j).1=3→(ev h i).2.2.2=(ev h j).2.2.2→i=j
section
variable {h:List Ev} {l:List Pe}
theorem peAt_true (ht:trueOf h l) {i:Int} {p:Pe} (hp:peAt l i=some p):∃ k:Nat,i=(k:Int)∧k < h.length∧p.2=ev h k:=by
 have h1:=List.find?_some hp
 obtain ⟨k,k1,k2,k3⟩:=ht p (List.mem_of_find?_eq_some hp)
 exact ⟨k,by rw [← k1];exact (of_decide_eq_true h1).symm,k2,k3⟩
theorem peEnd_true (ht:trueOf h l) {t:Int} {p:Pe} (hp:peEnd l t=some p):∃ k:Nat,p.1=(k:Int)∧k < h.length∧p.2=ev h k∧(ev h k).2.1=t∧((ev h k).1=4∨(ev h k).1=5):=by
 have h1:=List.find?_some hp
 simp only [decide_eq_true_eq] at h1
 obtain ⟨k,k1,k2,k3⟩:=ht p (List.mem_of_find?_eq_some hp)
 exact ⟨k,k1,k2,k3,by rw [← k3];exact h1.1,by rw [← k3];exact h1.2⟩
theorem peComm_true (ht:trueOf h l) (he:endsOnce h) {t c:Int} (hc:peComm l t=some c):∃ k:Nat,c=(k:Int)∧commL h t=some k:=by
 unfold peComm at hc
 cases hp:peEnd l t with
 | none=>rw [hp] at hc;cases hc
 | some p =>
   rw [hp] at hc
   simp only at hc
   by_cases h4:p.2.1=4∧0≤p.1
   ·rw [if_pos h4] at hc
    cases hc
    obtain ⟨k,k1,k2,k3,k4,k5⟩:=peEnd_true ht hp
    refine ⟨k,k1,(commL_some _ _ _).2 ⟨(endL_some _ _ _ _).2 ⟨k2,⟨k4,k5⟩,fun j hj hb=>?_⟩,by rw [← k3];exact h4.1⟩⟩
    have:=he j k (by omega) k2 hb.2 k5 (by rw [hb.1,k4])
    omega
   ·rw [if_neg h4] at hc;cases hc
theorem peWr_true (ht:trueOf h l) (hv:valsOnce h) {key val:List UInt8} {p:Pe} (hp:peWr l key val=some p):∃ k:Nat,p.1=(k:Int)∧p.2=ev h k∧writerL h key val=some k:=by
 have h1:=List.find?_some hp
 simp only [decide_eq_true_eq] at h1
 obtain ⟨k,k1,k2,k3⟩:=ht p (List.mem_of_find?_eq_some hp)
 rw [k3] at h1
 refine ⟨k,k1,k3,(writerL_some _ _ _ _).2 ⟨k2,h1,fun j hj hb=>?_⟩⟩
 have:=hv j k (by omega) k2 hb.1 h1.1 (by rw [hb.2.2,h1.2.2])
 omega
end
def edgeShows (l:List Pe) (e:Ed):Prop :=
 ∃ x y a b,peAt l e.2.2.2.1=some x∧peAt l e.2.2.2.2=some y∧peComm l e.2.1=some a∧peComm l e.2.2.1=some b∧e.2.1≠e.2.2.1∧x.2.2.1=e.2.1∧y.2.2.1=e.2.2.1∧x.2.2.2.1=y.2.2.2.1 ∧
 ((e.1=1∧x.2.1=3∧y.2.1=3∧a < b)∨(e.1=2∧x.2.1=3∧y.2.1=2∧x.2.2.2.2=y.2.2.2.2) ∨
  (e.1=3∧x.2.1=2∧y.2.1=3∧(x.2.2.2.2=[]∨∃ w c,peWr l x.2.2.2.1 x.2.2.2.2=some w∧w.2.2.1≠e.2.2.1∧peComm l w.2.2.1=some c∧c < b)))
theorem edge_holds {h:List Ev} {l:List Pe} (ht:trueOf h l) (he:endsOnce h) (hv:valsOnce h) (e:Ed) (hs:edgeShows l e):holdsL h e:=by
 obtain ⟨x,y,a,b,hx,hy,ha,hb,hne,tx',ty',hk,hcase⟩:=hs
 obtain ⟨i,i1,i2,i3⟩:=peAt_true ht hx
 obtain ⟨j,j1,j2,j3⟩:=peAt_true ht hy
 obtain ⟨a',a1,a2⟩:=peComm_true ht he ha
 obtain ⟨b',b1,b2⟩:=peComm_true ht he hb
 rw [i3] at tx' hk hcase
 rw [j3] at ty' hk hcase
 refine ⟨a',b',i,j,a2,b2,hne,i1,j1,i2,j2,hk,tx',ty',?_⟩
 rcases hcase with ⟨h1,h2,h3,h4⟩ | h' | ⟨h1,h2,h3,h4⟩
 ·exact .inl ⟨h1,h2,h3,by omega⟩
 ·exact .inr (.inl h')
 ·refine .inr (.inr ⟨h1,h2,h3,?_⟩)
  rcases h4 with h4 | ⟨w,c,w1,w2,w3,w4⟩
  ·exact .inl h4
  ·right
   obtain ⟨k,k1,k2,k3⟩:=peWr_true ht hv w1
   rw [k2] at w2 w3
   obtain ⟨c',c1,c2⟩:=peComm_true ht he w3
   exact ⟨k,c',k3,w2,c2,by omega⟩
end Go.Proofs.YthamoeekiglphaaGreatDoor
namespace Go.Proofs.YthamoeekiglphaaGreatDoor
set_option maxRecDepth 100000
set_option linter.unusedVariables false
def leafI (s:List UInt8):List UInt8:=0::s
def nodeI (a b:List UInt8):List UInt8:=1::(a++b)
def rootI (n:Nat) (c:List UInt8):List UInt8:=2::(Lm.numL n++c)
def hfGo:Nat→Nat→Nat→Nat
 | 0,k,_=>k
 | f+1,k,n=>if k+k < n then hfGo f (k+k) n else k
def hf (n:Nat):Nat:=hfGo n 1 n
theorem hfGo_step (f k n:Nat) (h1:1≤k) (hf:n≤f+k) (h:k+k < n):∃ f',hfGo f k n=hfGo f' (k+k) n∧n≤f'+(k+k):=by
 cases f with
 | zero=>omega
 | succ f=>exact ⟨f,by rw [hfGo,if_pos h],by omega⟩
theorem hfGo_end (f k n:Nat) (h:¬ k+k < n):hfGo f k n=k:=by
 cases f with
 | zero=>rfl
 | succ f=>rw [hfGo,if_neg h]
theorem hfGo_facts:∀ (f k n:Nat),1≤k→n≤f+k→1≤hfGo f k n∧(k < n→hfGo f k n < n)∧n≤2*hfGo f k n:=by
 intro f
 induction f with
 | zero=>intro k n h1 h2;refine ⟨h1,fun h=>h,?_⟩;rw [hfGo];omega
 | succ f ih =>
   intro k n h1 h2
   rw [hfGo]
   by_cases h:k+k < n
   ·rw [if_pos h]
    have:=ih (k+k) n (by omega) (by omega)
    exact ⟨this.1,fun _=>this.2.1 h,this.2.2⟩
   ·rw [if_neg h]
    exact ⟨h1,fun h=>h,by omega⟩
theorem hf_pos (n:Nat):1≤hf n:=(hfGo_facts n 1 n (by omega) (by omega)).1
theorem hf_lt (n:Nat) (h:2≤n):hf n < n:=(hfGo_facts n 1 n (by omega) (by omega)).2.1 (by omega)
theorem hf_ge (n:Nat):n≤2*hf n:=(hfGo_facts n 1 n (by omega) (by omega)).2.2
def topL (sm:List UInt8→List UInt8) (l:List (List UInt8)):List UInt8 :=
 if h:l.length≤1 then leafI (l.headD []) else nodeI (sm (topL sm (l.take (hf l.length)))) (sm (topL sm (l.drop (hf l.length))))
 termination_by l.length
 decreasing_by
  ·have:=hf_lt l.length (by omega);simp;omega
  ·have:=hf_pos l.length;simp;omega
theorem topL_one (sm:List UInt8→List UInt8) (s:List UInt8):topL sm [s]=leafI s:=by rw [topL];rfl
theorem topL_more (sm:List UInt8→List UInt8) (l:List (List UInt8)) (h:2≤l.length):topL sm l=nodeI (sm (topL sm (l.take (hf l.length)))) (sm (topL sm (l.drop (hf l.length)))):=by
 rw [topL,dif_neg (by omega)]
def crownL (sm:List UInt8→List UInt8) (l:List (List UInt8)):List UInt8:=if l.length=0 then [] else sm (topL sm l)
def rootL (sm:List UInt8→List UInt8) (l:List (List UInt8)):List UInt8:=sm (rootI l.length (crownL sm l))
def pathL (sm:List UInt8→List UInt8) (l:List (List UInt8)) (i:Nat):List (List UInt8) :=
 if h:l.length≤1 then [] else if i < hf l.length then pathL sm (l.take (hf l.length)) i++[crownL sm (l.drop (hf l.length))] else pathL sm (l.drop (hf l.length)) (i - hf l.length)++[crownL sm (l.take (hf l.length))]
 termination_by l.length
 decreasing_by
  ·have:=hf_lt l.length (by omega);simp;omega
  ·have:=hf_pos l.length;simp;omega
theorem pathL_one (sm:List UInt8→List UInt8) (l:List (List UInt8)) (i:Nat) (h:l.length≤1):pathL sm l i=[]:=by rw [pathL,dif_pos h]
theorem pathL_left (sm:List UInt8→List UInt8) (l:List (List UInt8)) (i:Nat) (h:2≤l.length) (hi:i < hf l.length):pathL sm l i=pathL sm (l.take (hf l.length)) i++[crownL sm (l.drop (hf l.length))]:=by
 rw [pathL,dif_neg (by omega),if_pos hi]
theorem pathL_right (sm:List UInt8→List UInt8) (l:List (List UInt8)) (i:Nat) (h:2≤l.length) (hi:¬ i < hf l.length):pathL sm l i=pathL sm (l.drop (hf l.length)) (i - hf l.length)++[crownL sm (l.take (hf l.length))]:=by
 rw [pathL,dif_neg (by omega),if_neg hi]
def inL (sm:List UInt8→List UInt8) (n i:Nat) (s:List UInt8) (p:List (List UInt8)):Option (List (List UInt8)) :=
 if h:n≤1 then (if p.length=0 then some [leafI s] else none) else
  if p.length=0 then none else
   if i < hf n then (inL sm (hf n) i s p.dropLast).map fun l=>l++[nodeI (sm (l.getLastD [])) (p.getLastD [])]
   else (inL sm (n - hf n) (i - hf n) s p.dropLast).map fun l=>l++[nodeI (p.getLastD []) (sm (l.getLastD []))]
 termination_by n
 decreasing_by
  ·exact hf_lt n (by omega)
  ·have:=hf_pos n;omega
theorem inL_one (sm:List UInt8→List UInt8) (n i:Nat) (s:List UInt8) (p:List (List UInt8)) (h:n≤1):inL sm n i s p=if p.length=0 then some [leafI s] else none:=by rw [inL,dif_pos h]
theorem inL_none (sm:List UInt8→List UInt8) (n i:Nat) (s:List UInt8) (p:List (List UInt8)) (h:2≤n) (hp:p.length=0):inL sm n i s p=none:=by rw [inL,dif_neg (by omega),if_pos hp]
theorem inL_left (sm:List UInt8→List UInt8) (n i:Nat) (s:List UInt8) (p:List (List UInt8)) (h:2≤n) (hp:p.length≠0) (hi:i < hf n):inL sm n i s p=(inL sm (hf n) i s p.dropLast).map fun l=>l++[nodeI (sm (l.getLastD [])) (p.getLastD [])]:=by
 rw [inL,dif_neg (by omega),if_neg hp,if_pos hi]
theorem inL_right (sm:List UInt8→List UInt8) (n i:Nat) (s:List UInt8) (p:List (List UInt8)) (h:2≤n) (hp:p.length≠0) (hi:¬ i < hf n):inL sm n i s p=(inL sm (n - hf n) (i - hf n) s p.dropLast).map fun l=>l++[nodeI (p.getLastD []) (sm (l.getLastD []))]:=by
 rw [inL,dif_neg (by omega),if_neg hp,if_neg hi]
def climbL (sm:List UInt8→List UInt8) (n i:Int) (s:List UInt8) (p:List (List UInt8)):List (List UInt8) × Nat :=
 if n < 1∨4096 < n∨i < 0∨n≤i then ([],1) else
  if ∃ x∈p,x.length≠32 then ([],14) else
   match inL sm n.toNat i.toNat s p with
   | none=>([],14)
   | some l=>(l++[rootI n.toNat (sm (l.getLastD []))],0)
def checkL (sm:List UInt8→List UInt8) (root:List UInt8) (n i:Int) (s:List UInt8) (p:List (List UInt8)):Nat :=
 if (climbL sm n i s p).2≠0 then (climbL sm n i s p).2 else if sm ((climbL sm n i s p).1.getLastD [])≠root then 13 else 0
def zPf:Pf:=(0,(0,0,[],[]),[])
def pf15 (l:List Pf) (k:Nat):Pf:=l.getD k zPf
def fp (f:Pf→Bool) (l:List Pf):Option Nat:=fi (fun k=>f (pf15 l k)) l.length
def pAt (i:Int) (p:Pf):Bool:=decide (p.1=i)
def pEnd (t:Int) (p:Pf):Bool:=decide (p.2.1.2.1=t)&&(decide (p.2.1.1=4) || decide (p.2.1.1=5))
def pWr (key val:List UInt8) (p:Pf):Bool:=decide (p.2.1.1=3)&&decide (p.2.1.2.2.1=key)&&decide (p.2.1.2.2.2=val)
def gotO (l:List Pf):Option Nat→Pf
 | none=>zPf
 | some k=>pf15 l k
def evP (l:List Pf) (i:Int):Ev:=(gotO l (fp (pAt i) l)).2.1
def endP (l:List Pf) (t:Int):Pf:=gotO l (fp (pEnd t) l)
def comP (l:List Pf) (t:Int):Int:=if (endP l t).2.1.1=4 then (endP l t).1 else -1
def cmP (l:List Pf) (t:Int):Int:=if (endP l t).2.1.1=4∧0≤(endP l t).1 then (endP l t).1 else -1
def wrP (l:List Pf) (key val:List UInt8):Option Nat:=fp (pWr key val) l
def overB (l:List Pf) (x:Ev) (t:Int) (p:Int):Bool:=decide (x.2.2.2≠[])&&(match wrP l x.2.2.1 x.2.2.2 with
 | none=>false
 | some k=>decide ((pf15 l k).1 < p)&&decide ((pf15 l k).2.1.2.1=t))
def lastB (l:List Pf) (x:Ev) (i j:Int):Bool:=decide (x.2.2.2=[]) || (match wrP l x.2.2.1 x.2.2.2 with
 | none=>false
 | some k=>decide ((pf15 l k).2.1.2.1≠x.2.1) || decide ((pf15 l k).1 < j) || decide (i < (pf15 l k).1))
def aheadP (l:List Pf) (x:Ev) (to:Int):Bool:=decide (x.2.2.2=[]) || (match wrP l x.2.2.1 x.2.2.2 with
 | none=>false
 | some k=>decide (0≤comP l (pf15 l k).2.1.2.1)&&decide (comP l (pf15 l k).2.1.2.1 < to))
def kindB (l:List Pf) (b:Int × Int × Int) (x y:Ev):Bool :=
 if b.1=1 then !decide (y.2.1=x.2.1)&&decide (y.2.2.2=x.2.2.2)&&decide ((endP l y.2.1).2.1.1=5)
 else if b.1=2 then !decide (y.2.1=x.2.1)&&!decide (y.2.2.2=x.2.2.2)&&overB l x y.2.1 b.2.2
 else if b.1=3 then decide (y.2.1=x.2.1)&&!decide (y.2.2.2=x.2.2.2)&&decide (b.2.2 < b.2.1)&&lastB l x b.2.1 b.2.2
 else if b.1=4 then decide (y.2.1=x.2.1)&&decide (y.2.2.2=x.2.2.2)&&decide (b.2.1 < b.2.2)
 else false
def badB (l:List Pf) (b:Int × Int × Int):Bool :=
 decide (0≤b.2.1)&&decide ((evP l b.2.1).1=2)&&decide (b.2.1 < comP l (evP l b.2.1).2.1)&&decide ((evP l b.2.2).1=3)&&decide ((evP l b.2.2).2.2.1=(evP l b.2.1).2.2.1)&&kindB l b (evP l b.2.1) (evP l b.2.2)
def kindE (l:List Pf) (e:Ed) (x y:Ev):Bool :=
 if e.1=1 then decide (x.1=3)&&decide (y.1=3)&&decide (comP l e.2.1 < comP l e.2.2.1)
 else if e.1=2 then decide (x.1=3)&&decide (y.1=2)&&decide (x.2.2.2=y.2.2.2)
 else if e.1=3 then decide (x.1=2)&&decide (y.1=3)&&aheadP l x (comP l e.2.2.1)
 else false
def edgeB (l:List Pf) (e:Ed):Bool :=
 decide (e.2.1≠e.2.2.1)&&decide (0≤comP l e.2.1)&&decide (0≤comP l e.2.2.1)&&decide ((evP l e.2.2.2.1).2.1=e.2.1)&&decide ((evP l e.2.2.2.2).2.1=e.2.2.1)&&decide ((evP l e.2.2.2.1).2.2.1=(evP l e.2.2.2.2).2.2.1)&&kindE l e (evP l e.2.2.2.1) (evP l e.2.2.2.2)
def nxE (r:List Ed) (k:Nat):Ed:=r.getD ((k+1) % r.length) (0,0,0,0,0)
def rgK (l:List Pf) (level:Int) (r:List Ed) (k:Nat):Bool:=edgeB l (r.getD k (0,0,0,0,0))&&decide ((r.getD k (0,0,0,0,0)).2.2.1=(nxE r k).2.1)&&!(decide (level=2)&&decide ((r.getD k (0,0,0,0,0)).1=3)&&decide ((nxE r k).1=3))
def rgU (l:List Pf) (level:Int) (r:List Ed) (n:Nat):Bool:=(List.range n).all (rgK l level r)
def ringB (l:List Pf) (level:Int) (r:List Ed):Bool:=decide (r≠[])&&rgU l level r r.length
def pfK15 (sm:List UInt8→List UInt8) (root:List UInt8) (n:Int) (l:List Pf) (k:Nat):Bool :=
 (decide (k=0) || decide ((pf15 l (k - 1)).1 < (pf15 l k).1))&&decide (checkL sm root n (pf15 l k).1 (bytE (pf15 l k).2.1) (pf15 l k).2.2=0)
def pfU15 (sm:List UInt8→List UInt8) (root:List UInt8) (n:Int) (l:List Pf) (m:Nat):Bool:=(List.range m).all (pfK15 sm root n l)
def provL (sm:List UInt8→List UInt8) (c:Ct) (root:List UInt8):Int :=
 if ¬ mayC c then 1 else if c.2.2.2.1≠root then 13 else if pfU15 sm root c.2.2.2.2.1 c.2.2.2.2.2.2 c.2.2.2.2.2.2.length=true then 0 else 14
def leanL (sm:List UInt8→List UInt8) (c:Ct) (root:List UInt8):Int :=
 if provL sm c root≠0 then provL sm c root
 else if c.2.2.2.2.2.1.2.1=true then 9
 else if c.2.2.2.2.2.1.2.2.1≠[] then 14
 else if c.2.2.2.2.2.1.2.2.2.1.1≠0 then (if c.2.2.2.2.2.1.2.2.2.2=[]∧badB c.2.2.2.2.2.2 c.2.2.2.2.2.1.2.2.2.1=true then 0 else 14)
 else if ringB c.2.2.2.2.2.2 c.2.2.2.2.2.1.1 c.2.2.2.2.2.1.2.2.2.2=true then 0 else 14
theorem all_no (f:Nat→Bool) {n k:Nat} (hk:k < n) (h:f k=false):(List.range n).all f=false:=by
 rw [List.all_eq_false]
 exact ⟨k,List.mem_range.2 hk,by rw [h];simp⟩
theorem pf15_at (l:List Pf) (k:Nat) (h:k < l.length):pf15 l k=l[k]:=by simp [pf15,List.getD,h]
theorem fp_some (f:Pf→Bool) (l:List Pf) (k:Nat):fp f l=some k↔k < l.length∧f (pf15 l k)=true∧∀ j,j < k→f (pf15 l j)=false:=fi_some _ _ _
theorem fp_more (f:Pf→Bool) (l m:List Pf) (k:Nat) (h:fp f l=some k):fp f (l++m)=some k:=by
 obtain ⟨h1,h2,h3⟩:=(fp_some f l k).1 h
 have hg:∀ j,j < l.length→pf15 (l++m) j=pf15 l j:=fun j hj=>by simp [pf15,List.getD,List.getElem?_append_left hj]
 refine (fp_some f _ k).2 ⟨by rw [List.length_append];omega,by rw [hg k h1];exact h2,fun j hj=>by rw [hg j (by omega)];exact h3 j hj⟩
theorem got_more (l m:List Pf) (k:Nat) (h:k < l.length):pf15 (l++m) k=pf15 l k:=by simp [pf15,List.getD,List.getElem?_append_left h]
theorem fp_lt {f:Pf→Bool} {l:List Pf} {k:Nat} (h:fp f l=some k):k < l.length:=((fp_some f l k).1 h).1
theorem gotO_more (f:Pf→Bool) (l m:List Pf) (h:(gotO l (fp f l)).2.1.1≠0):gotO (l++m) (fp f (l++m))=gotO l (fp f l):=by
 cases hf:fp f l with
 | none=>rw [hf] at h;exact absurd rfl h
 | some k =>
   rw [fp_more f l m k hf]
   exact got_more l m k (fp_lt hf)
theorem evP_more (l m:List Pf) (i:Int) (h:(evP l i).1≠0):evP (l++m) i=evP l i:=by
 unfold evP at h ⊢
 rw [gotO_more _ l m h]
theorem endP_more (l m:List Pf) (t:Int) (h:(endP l t).2.1.1≠0):endP (l++m) t=endP l t:=gotO_more _ l m h
theorem comP_more (l m:List Pf) (t:Int) (h:0≤comP l t):comP (l++m) t=comP l t:=by
 unfold comP at h ⊢
 by_cases h4:(endP l t).2.1.1=4
 ·rw [endP_more l m t (by rw [h4];decide)]
 ·rw [if_neg h4] at h;omega
theorem wrP_more (l m:List Pf) (a b:List UInt8) (k:Nat) (h:wrP l a b=some k):wrP (l++m) a b=some k:=fp_more _ l m k h
theorem aheadP_more (l m:List Pf) (x:Ev) (to:Int) (h:aheadP l x to=true):aheadP (l++m) x to=true:=by
 unfold aheadP at h ⊢
 cases hw:wrP l x.2.2.1 x.2.2.2 with
 | none=>rw [hw] at h;simp only [Bool.or_false] at h;rw [h];rfl
 | some k =>
   rw [hw] at h;rw [wrP_more l m _ _ k hw];simp only at h ⊢;rw [got_more l m k (fp_lt hw)]
   simp only [Bool.or_eq_true,Bool.and_eq_true,decide_eq_true_eq] at h ⊢
   rcases h with h | ⟨h1,h2⟩
   ·exact .inl h
   ·rw [comP_more l m _ h1];exact .inr ⟨h1,h2⟩
theorem edgeB_more (l m:List Pf) (e:Ed) (h:edgeB l e=true):edgeB (l++m) e=true:=by
 unfold edgeB at h
 simp only [Bool.and_eq_true,decide_eq_true_eq] at h
 obtain ⟨⟨⟨⟨⟨⟨h1,h2⟩,h3⟩,h4⟩,h5⟩,h6⟩,h7⟩:=h
 have hx:(evP l e.2.2.2.1).1≠0∧(evP l e.2.2.2.2).1≠0:=by
  unfold kindE at h7
  repeat' split at h7
  all_goals (try simp only [Bool.and_eq_true,decide_eq_true_eq] at h7)
  all_goals (try (constructor<;>omega))
  cases h7
 unfold edgeB
 rw [evP_more l m _ hx.1,evP_more l m _ hx.2,comP_more l m _ h2,comP_more l m _ h3]
 simp only [Bool.and_eq_true,decide_eq_true_eq]
 refine ⟨⟨⟨⟨⟨⟨h1,h2⟩,h3⟩,h4⟩,h5⟩,h6⟩,?_⟩
 unfold kindE at h7 ⊢
 rw [comP_more l m _ h2,comP_more l m _ h3]
 split
 ·rename_i hk;rw [if_pos hk] at h7;exact h7
 ·rename_i hk
  rw [if_neg hk] at h7
  split
  ·rename_i hk2;rw [if_pos hk2] at h7;exact h7
  ·rename_i hk2
   rw [if_neg hk2] at h7
   split
   ·rename_i hk3
    rw [if_pos hk3] at h7
    simp only [Bool.and_eq_true] at h7 ⊢
    exact ⟨h7.1,aheadP_more l m _ _ h7.2⟩
   ·rename_i hk3;rw [if_neg hk3] at h7;exact h7
def peOf (p:Pf):Pe:=(p.1,p.2.1)
theorem fp_find (f:Pf→Bool):∀ l:List Pf,(fp f l).map (pf15 l)=l.find? f
 | []=>rfl
 | p::l=>by
   have ih:=fp_find f l
   by_cases h:f p=true
   ·rw [List.find?_cons_of_pos h]
    rw [(fp_some f (p::l) 0).2 ⟨by simp,h,fun j hj=>absurd hj (by omega)⟩]
    rfl
   ·rw [List.find?_cons_of_neg h,← ih]
    cases hf:fp f l with
    | none =>
      have hn:=(fi_none _ _).1 hf
      rw [show fp f (p::l)=none from (fi_none _ _).2 (fun j hj=>by
       cases j with
       | zero=>exact Bool.eq_false_iff.2 h
       | succ j=>exact hn j (by simp at hj;omega))]
      rfl
    | some k =>
      obtain ⟨h1,h2,h3⟩:=(fp_some f l k).1 hf
      rw [(fp_some f (p::l) (k+1)).2 ⟨by simp;omega,h2,fun j hj=>by
       cases j with
       | zero=>exact Bool.eq_false_iff.2 h
       | succ j=>exact h3 j (by omega)⟩]
      rfl
theorem find_pe (g:Pe→Bool) (l:List Pf):(l.map peOf).find? g=(l.find? fun p=>g (peOf p)).map peOf:=by
 rw [List.find?_map];rfl
theorem peAt_of (l:List Pf) (i:Int) (h:(evP l i).1≠0):∃ p,peAt (l.map peOf) i=some p∧p.2=evP l i:=by
 unfold peAt
 rw [find_pe]
 unfold evP at h ⊢
 have hf:=fp_find (pAt i) l
 cases hk:fp (pAt i) l with
 | none=>rw [hk] at h;exact absurd rfl h
 | some k =>
   rw [hk] at hf
   have:(l.find? fun p=>decide ((peOf p).1=i))=some (pf15 l k):=hf.symm
   rw [this]
   exact ⟨_,rfl,rfl⟩
theorem peEnd_of (l:List Pf) (t:Int) (h:(endP l t).2.1.1≠0):peEnd (l.map peOf) t=some (peOf (endP l t)):=by
 unfold peEnd
 rw [find_pe]
 unfold endP at h ⊢
 have hf:=fp_find (pEnd t) l
 cases hk:fp (pEnd t) l with
 | none=>rw [hk] at h;exact absurd rfl h
 | some k =>
   rw [hk] at hf
   have hg:(fun p:Pf=>decide ((peOf p).2.2.1=t∧((peOf p).2.1=4∨(peOf p).2.1=5)))=pEnd t:=by
    funext p
    show decide (p.2.1.2.1=t∧(p.2.1.1=4∨p.2.1.1=5))=(decide (p.2.1.2.1=t)&&(decide (p.2.1.1=4) || decide (p.2.1.1=5)))
    rw [Bool.eq_iff_iff]
    simp
   rw [hg,← hf]
   rfl
theorem peComm_of (l:List Pf) (t:Int) (h:0≤comP l t):peComm (l.map peOf) t=some (comP l t):=by
 unfold comP at h ⊢
 by_cases h4:(endP l t).2.1.1=4
 ·rw [if_pos h4] at h ⊢
  unfold peComm
  rw [peEnd_of l t (by rw [h4];decide)]
  simp only
  rw [if_pos ⟨h4,h⟩]
  rfl
 ·rw [if_neg h4] at h;omega
theorem peWr_of (l:List Pf) (a b:List UInt8) (k:Nat) (h:wrP l a b=some k):peWr (l.map peOf) a b=some (peOf (pf15 l k)):=by
 unfold peWr
 rw [find_pe]
 have hf:=fp_find (pWr a b) l
 unfold wrP at h
 rw [h] at hf
 have hg:(fun p:Pf=>decide ((peOf p).2.1=3∧(peOf p).2.2.2.1=a∧(peOf p).2.2.2.2=b))=pWr a b:=by
  funext p
  show decide (p.2.1.1=3∧p.2.1.2.2.1=a∧p.2.1.2.2.2=b)=(decide (p.2.1.1=3)&&decide (p.2.1.2.2.1=a)&&decide (p.2.1.2.2.2=b))
  rw [Bool.eq_iff_iff]
  simp [and_assoc]
 rw [hg,← hf]
 rfl
theorem edgeB_shows (l:List Pf) (e:Ed) (h:edgeB l e=true):edgeShows (l.map peOf) e:=by
 unfold edgeB at h
 simp only [Bool.and_eq_true,decide_eq_true_eq] at h
 obtain ⟨⟨⟨⟨⟨⟨h1,h2⟩,h3⟩,h4⟩,h5⟩,h6⟩,h7⟩:=h
 have hx:(evP l e.2.2.2.1).1≠0∧(evP l e.2.2.2.2).1≠0:=by
  unfold kindE at h7
  repeat' split at h7
  all_goals (try simp only [Bool.and_eq_true,decide_eq_true_eq] at h7)
  all_goals (try (constructor<;>omega))
  cases h7
 obtain ⟨x,x1,x2⟩:=peAt_of l _ hx.1
 obtain ⟨y,y1,y2⟩:=peAt_of l _ hx.2
 refine ⟨x,y,_,_,x1,y1,peComm_of l _ h2,peComm_of l _ h3,h1,by rw [x2];exact h4,by rw [y2];exact h5,by rw [x2,y2];exact h6,?_⟩
 rw [x2,y2]
 generalize evP l e.2.2.2.1=X at *
 generalize evP l e.2.2.2.2=Y at *
 unfold kindE at h7
 split at h7
 ·rename_i hk
  simp only [Bool.and_eq_true,decide_eq_true_eq] at h7
  exact .inl ⟨hk,h7.1.1,h7.1.2,h7.2⟩
 ·split at h7
  ·rename_i hk
   simp only [Bool.and_eq_true,decide_eq_true_eq] at h7
   exact .inr (.inl ⟨hk,h7.1.1,h7.1.2,h7.2⟩)
  ·split at h7
   ·rename_i hk
    simp only [Bool.and_eq_true,decide_eq_true_eq] at h7
    refine .inr (.inr ⟨hk,h7.1.1,h7.1.2,?_⟩)
    have g4:=h7.2
    unfold aheadP at g4
    cases hw:wrP l X.2.2.1 X.2.2.2 with
    | none=>rw [hw] at g4;simp only [Bool.or_false,decide_eq_true_eq] at g4;exact .inl g4
    | some k =>
      rw [hw] at g4
      simp only [Bool.or_eq_true,Bool.and_eq_true,decide_eq_true_eq] at g4
      rcases g4 with g4 | ⟨g4,g5⟩
      ·exact .inl g4
      ·have hpk:(pf15 l k).2.1.2.1≠e.2.2.1:=fun hh=>by rw [hh] at g5;omega
       exact .inr ⟨_,_,peWr_of l _ _ k hw,hpk,peComm_of l _ g4,g5⟩
   ·cases h7
end Go.Proofs.YthamoeekiglphaaGreatDoor
namespace Go.Proofs.YthamoeekiglphaaGreatDoor
set_option maxRecDepth 100000
set_option linter.unusedVariables false
section
variable (sm:List UInt8→List UInt8) (h32:∀ s,(sm s).length=32)
theorem crownL_len (h32:∀ s,(sm s).length=32) (l:List (List UInt8)) (h:l.length≠0):(crownL sm l).length=32:=by
 unfold crownL;rw [if_neg h];exact h32 _
theorem pathL_32 (h32:∀ s,(sm s).length=32):∀ (n:Nat) (l:List (List UInt8)) (i:Nat),l.length=n→i < l.length→∀ x∈pathL sm l i,x.length=32:=by
 intro n
 induction n using Nat.strongRecOn with
 | _ n ih =>
   intro l i hn hi x hx
   by_cases h1:l.length≤1
   ·rw [pathL_one sm l i h1] at hx;cases hx
   ·have hlt:=hf_lt l.length (by omega)
    have hps:=hf_pos l.length
    by_cases hk:i < hf l.length
    ·rw [pathL_left sm l i (by omega) hk] at hx
     rcases List.mem_append.1 hx with h | h
     ·exact ih (l.take (hf l.length)).length (by simp;omega) _ i rfl (by simp;omega) x h
     ·simp at h;subst h;exact crownL_len sm h32 _ (by first | (rw [List.length_drop];omega) | (rw [List.length_take];omega))
    ·rw [pathL_right sm l i (by omega) hk] at hx
     rcases List.mem_append.1 hx with h | h
     ·exact ih (l.drop (hf l.length)).length (by simp;omega) _ (i - hf l.length) rfl (by simp;omega) x h
     ·simp at h;subst h;exact crownL_len sm h32 _ (by first | (rw [List.length_drop];omega) | (rw [List.length_take];omega))
theorem inL_path:∀ (n:Nat) (l:List (List UInt8)) (i:Nat) (s:List UInt8),l[i]?=some s→l.length=n→∃ L,inL sm l.length i s (pathL sm l i)=some L∧L.getLastD []=topL sm l:=by
 intro n
 induction n using Nat.strongRecOn with
 | _ n ih =>
   intro l i s hs hn
   have hi:i < l.length:=(List.getElem?_eq_some_iff.1 hs).1
   by_cases h1:l.length≤1
   ·rw [pathL_one sm l i h1,inL_one sm _ _ _ _ h1]
    match l,hi,h1,hs with
    | [u],hi,_,hs =>
      have h0:i=0:=by simp at hi;exact hi
      subst h0
      simp at hs
      subst hs
      exact ⟨[leafI u],rfl,by rw [topL_one];rfl⟩
   ·have hlt:=hf_lt l.length (by omega)
    have hps:=hf_pos l.length
    by_cases hk:i < hf l.length
    ·have lt1:(l.take (hf l.length)).length=hf l.length:=by rw [List.length_take];omega
     obtain ⟨L,e1,e2⟩:=ih (l.take (hf l.length)).length (by omega) (l.take (hf l.length)) i s (by rw [List.getElem?_take_of_lt hk];exact hs) rfl
     rw [lt1] at e1
     rw [pathL_left sm l i (by omega) hk,inL_left sm _ _ _ _ (by omega) (by simp) hk,List.dropLast_concat,e1]
     refine ⟨_,rfl,?_⟩
     rw [List.getLastD_concat,List.getLastD_concat,e2,topL_more sm l (by omega)]
     unfold crownL
     rw [if_neg (by rw [List.length_drop];omega)]
    ·have lt1:(l.drop (hf l.length)).length=l.length - hf l.length:=List.length_drop
     obtain ⟨L,e1,e2⟩:=ih (l.drop (hf l.length)).length (by omega) (l.drop (hf l.length)) (i - hf l.length) s (by rw [List.getElem?_drop,show hf l.length+(i - hf l.length)=i by omega];exact hs) rfl
     rw [lt1] at e1
     rw [pathL_right sm l i (by omega) hk,inL_right sm _ _ _ _ (by omega) (by simp) hk,List.dropLast_concat,e1]
     refine ⟨_,rfl,?_⟩
     rw [List.getLastD_concat,List.getLastD_concat,e2,topL_more sm l (by omega)]
     unfold crownL
     rw [if_neg (by rw [List.length_take];omega)]
theorem check_path (h32:∀ s,(sm s).length=32) (l:List (List UInt8)) (hl:l.length≤4096) (i:Nat) (hi:i < l.length):checkL sm (rootL sm l) l.length i (l[i]'hi) (pathL sm l i)=0:=by
 obtain ⟨L,e1,e2⟩:=inL_path sm l.length l i (l[i]'hi) (List.getElem?_eq_getElem hi) rfl
 have hp:=pathL_32 sm h32 l.length l i rfl hi
 have hno:¬ ∃ x∈pathL sm l i,x.length≠32:=fun ⟨x,hx,hn⟩=>hn (hp x hx)
 have hc:climbL sm l.length i (l[i]'hi) (pathL sm l i)=(L++[rootI l.length (sm (L.getLastD []))],0):=by
  unfold climbL
  rw [if_neg (by omega),if_neg hno]
  simp only [Int.toNat_natCast,e1]
 unfold checkL
 rw [hc]
 simp only [ne_eq,not_true,if_false,List.getLastD_concat]
 have hr:rootL sm l=sm (rootI l.length (sm (topL sm l))):=by unfold rootL crownL;rw [if_neg (by omega)]
 rw [e2,hr]
 simp
end
end Go.Proofs.YthamoeekiglphaaGreatDoor
namespace Go.Proofs.YthamoeekiglphaaGreatDoor
set_option maxRecDepth 100000
open Go.RowKit
set_option linter.unusedVariables false
theorem rl_16 (x:Int) (w:World):Calls Tryz.prog 148 #[.int .u32 x,.int .i64 (-16)] w fun e w'=>e=.returned (.int .u32 (rot 65536 65536 x))∧w'=w:=by
 have hs:bits .and .u64 (IntKind.u64.wrap (-16)) 31=16:=by decide +kernel
 go_enter Tryz.func148,Tryz.ntmps148
 go_wp2
 go_ret
 exact ⟨ret_int (or_comm32 _ _),rfl⟩
theorem rl_12 (x:Int) (w:World):Calls Tryz.prog 148 #[.int .u32 x,.int .i64 (-12)] w fun e w'=>e=.returned (.int .u32 (rot 4096 1048576 x))∧w'=w:=by
 have hs:bits .and .u64 (IntKind.u64.wrap (-12)) 31=20:=by decide +kernel
 go_enter Tryz.func148,Tryz.ntmps148
 go_wp2
 go_ret
 exact ⟨ret_int (or_comm32 _ _),rfl⟩
theorem rl_8 (x:Int) (w:World):Calls Tryz.prog 148 #[.int .u32 x,.int .i64 (-8)] w fun e w'=>e=.returned (.int .u32 (rot 256 16777216 x))∧w'=w:=by
 have hs:bits .and .u64 (IntKind.u64.wrap (-8)) 31=24:=by decide +kernel
 go_enter Tryz.func148,Tryz.ntmps148
 go_wp2
 go_ret
 exact ⟨ret_int (or_comm32 _ _),rfl⟩
theorem rl_7 (x:Int) (w:World):Calls Tryz.prog 148 #[.int .u32 x,.int .i64 (-7)] w fun e w'=>e=.returned (.int .u32 (rot 128 33554432 x))∧w'=w:=by
 have hs:bits .and .u64 (IntKind.u64.wrap (-7)) 31=25:=by decide +kernel
 go_enter Tryz.func148,Tryz.ntmps148
 go_wp2
 go_ret
 exact ⟨ret_int (or_comm32 _ _),rfl⟩
set_option maxHeartbeats 400000 in
theorem mix_a (a b c d x:Int) (w:World):Calls Tryz.prog 146 #[.int .u32 a,.int .u32 b,.int .u32 c,.int .u32 d,.int .u32 x,.int .i64 16,.int .i64 12] w fun e w'=>e=.returned (.tuple #[.int .u32 (hA a b x),.int .u32 (hB 65536 65536 4096 1048576 a b c d x),.int .u32 (hC 65536 65536 a b c d x),.int .u32 (hD 65536 65536 a b d x)])∧w'=w:=by
 go_enter Tryz.func146,Tryz.ntmps146
 go_wp2_with fail
 refine (rl_16 _ _).mono ?_
 rintro e w1 ⟨rfl,rfl⟩
 go_wp2_with fail
 refine (rl_12 _ _).mono ?_
 rintro e w1 ⟨rfl,rfl⟩
 go_wp2_with fail
 rw [add3]
 exact bodyPost_ret (results_tmp4 rfl _ _ _) rfl ⟨rfl,rfl⟩
set_option maxHeartbeats 400000 in
theorem mix_b (a b c d x:Int) (w:World):Calls Tryz.prog 146 #[.int .u32 a,.int .u32 b,.int .u32 c,.int .u32 d,.int .u32 x,.int .i64 8,.int .i64 7] w fun e w'=>e=.returned (.tuple #[.int .u32 (hA a b x),.int .u32 (hB 256 16777216 128 33554432 a b c d x),.int .u32 (hC 256 16777216 a b c d x),.int .u32 (hD 256 16777216 a b d x)])∧w'=w:=by
 go_enter Tryz.func146,Tryz.ntmps146
 go_wp2_with fail
 refine (rl_8 _ _).mono ?_
 rintro e w1 ⟨rfl,rfl⟩
 go_wp2_with fail
 refine (rl_7 _ _).mono ?_
 rintro e w1 ⟨rfl,rfl⟩
 go_wp2_with fail
 rw [add3]
 exact bodyPost_ret (results_tmp4 rfl _ _ _) rfl ⟨rfl,rfl⟩
theorem and15 (x:Int) (h0:0≤x) (h1:x < 18446744073709551616):bits .and .u64 x 15=x % 16 :=
 bits_mask .u64 64 (by decide) (fun n h h'=>by rw [IntKind.wrap_u64];omega) 4 (by decide) x h0 h1
def fg (o i:Nat):Nat:=o / 2 ^ (60 - 4*i) % 16
theorem figure_0 (o:Nat) (ho:o < 18446744073709551616) (w:World):Calls Tryz.prog 145 #[.int .u64 o,.int .i64 0] w fun e w'=>e=.returned (.int .i64 (fg o 0))∧w'=w:=by
 have hA:bits .and .u64 ((o:Int) / 1152921504606846976) 15=(o:Int) / 1152921504606846976 % 16:=and15 _ (by omega) (by omega)
 have hw:IntKind.i64.wrap ((o:Int) / 1152921504606846976 % 16)=(o:Int) / 1152921504606846976 % 16:=by rw [IntKind.wrap_i64];omega
 go_enter Tryz.func145,Tryz.ntmps145
 go_wp2
 go_ret
 exact ⟨ret_int (by unfold fg;simp only [Nat.reduceMul,Nat.reduceSub,Nat.reducePow];omega),rfl⟩
theorem figure_1 (o:Nat) (ho:o < 18446744073709551616) (w:World):Calls Tryz.prog 145 #[.int .u64 o,.int .i64 1] w fun e w'=>e=.returned (.int .i64 (fg o 1))∧w'=w:=by
 have hA:bits .and .u64 ((o:Int) / 72057594037927936) 15=(o:Int) / 72057594037927936 % 16:=and15 _ (by omega) (by omega)
 have hw:IntKind.i64.wrap ((o:Int) / 72057594037927936 % 16)=(o:Int) / 72057594037927936 % 16:=by rw [IntKind.wrap_i64];omega
 go_enter Tryz.func145,Tryz.ntmps145
 go_wp2
 go_ret
 exact ⟨ret_int (by unfold fg;simp only [Nat.reduceMul,Nat.reduceSub,Nat.reducePow];omega),rfl⟩
theorem figure_2 (o:Nat) (ho:o < 18446744073709551616) (w:World):Calls Tryz.prog 145 #[.int .u64 o,.int .i64 2] w fun e w'=>e=.returned (.int .i64 (fg o 2))∧w'=w:=by
 have hA:bits .and .u64 ((o:Int) / 4503599627370496) 15=(o:Int) / 4503599627370496 % 16:=and15 _ (by omega) (by omega)
 have hw:IntKind.i64.wrap ((o:Int) / 4503599627370496 % 16)=(o:Int) / 4503599627370496 % 16:=by rw [IntKind.wrap_i64];omega
 go_enter Tryz.func145,Tryz.ntmps145
 go_wp2
 go_ret
 exact ⟨ret_int (by unfold fg;simp only [Nat.reduceMul,Nat.reduceSub,Nat.reducePow];omega),rfl⟩
theorem figure_3 (o:Nat) (ho:o < 18446744073709551616) (w:World):Calls Tryz.prog 145 #[.int .u64 o,.int .i64 3] w fun e w'=>e=.returned (.int .i64 (fg o 3))∧w'=w:=by
 have hA:bits .and .u64 ((o:Int) / 281474976710656) 15=(o:Int) / 281474976710656 % 16:=and15 _ (by omega) (by omega)
 have hw:IntKind.i64.wrap ((o:Int) / 281474976710656 % 16)=(o:Int) / 281474976710656 % 16:=by rw [IntKind.wrap_i64];omega
 go_enter Tryz.func145,Tryz.ntmps145
 go_wp2
 go_ret
 exact ⟨ret_int (by unfold fg;simp only [Nat.reduceMul,Nat.reduceSub,Nat.reducePow];omega),rfl⟩
theorem figure_4 (o:Nat) (ho:o < 18446744073709551616) (w:World):Calls Tryz.prog 145 #[.int .u64 o,.int .i64 4] w fun e w'=>e=.returned (.int .i64 (fg o 4))∧w'=w:=by
 have hA:bits .and .u64 ((o:Int) / 17592186044416) 15=(o:Int) / 17592186044416 % 16:=and15 _ (by omega) (by omega)
 have hw:IntKind.i64.wrap ((o:Int) / 17592186044416 % 16)=(o:Int) / 17592186044416 % 16:=by rw [IntKind.wrap_i64];omega
 go_enter Tryz.func145,Tryz.ntmps145
 go_wp2
 go_ret
 exact ⟨ret_int (by unfold fg;simp only [Nat.reduceMul,Nat.reduceSub,Nat.reducePow];omega),rfl⟩
theorem figure_5 (o:Nat) (ho:o < 18446744073709551616) (w:World):Calls Tryz.prog 145 #[.int .u64 o,.int .i64 5] w fun e w'=>e=.returned (.int .i64 (fg o 5))∧w'=w:=by
 have hA:bits .and .u64 ((o:Int) / 1099511627776) 15=(o:Int) / 1099511627776 % 16:=and15 _ (by omega) (by omega)
 have hw:IntKind.i64.wrap ((o:Int) / 1099511627776 % 16)=(o:Int) / 1099511627776 % 16:=by rw [IntKind.wrap_i64];omega
 go_enter Tryz.func145,Tryz.ntmps145
 go_wp2
 go_ret
 exact ⟨ret_int (by unfold fg;simp only [Nat.reduceMul,Nat.reduceSub,Nat.reducePow];omega),rfl⟩
theorem figure_6 (o:Nat) (ho:o < 18446744073709551616) (w:World):Calls Tryz.prog 145 #[.int .u64 o,.int .i64 6] w fun e w'=>e=.returned (.int .i64 (fg o 6))∧w'=w:=by
 have hA:bits .and .u64 ((o:Int) / 68719476736) 15=(o:Int) / 68719476736 % 16:=and15 _ (by omega) (by omega)
 have hw:IntKind.i64.wrap ((o:Int) / 68719476736 % 16)=(o:Int) / 68719476736 % 16:=by rw [IntKind.wrap_i64];omega
 go_enter Tryz.func145,Tryz.ntmps145
 go_wp2
 go_ret
 exact ⟨ret_int (by unfold fg;simp only [Nat.reduceMul,Nat.reduceSub,Nat.reducePow];omega),rfl⟩
theorem figure_7 (o:Nat) (ho:o < 18446744073709551616) (w:World):Calls Tryz.prog 145 #[.int .u64 o,.int .i64 7] w fun e w'=>e=.returned (.int .i64 (fg o 7))∧w'=w:=by
 have hA:bits .and .u64 ((o:Int) / 4294967296) 15=(o:Int) / 4294967296 % 16:=and15 _ (by omega) (by omega)
 have hw:IntKind.i64.wrap ((o:Int) / 4294967296 % 16)=(o:Int) / 4294967296 % 16:=by rw [IntKind.wrap_i64];omega
 go_enter Tryz.func145,Tryz.ntmps145
 go_wp2
 go_ret
 exact ⟨ret_int (by unfold fg;simp only [Nat.reduceMul,Nat.reduceSub,Nat.reducePow];omega),rfl⟩
theorem figure_8 (o:Nat) (ho:o < 18446744073709551616) (w:World):Calls Tryz.prog 145 #[.int .u64 o,.int .i64 8] w fun e w'=>e=.returned (.int .i64 (fg o 8))∧w'=w:=by
 have hA:bits .and .u64 ((o:Int) / 268435456) 15=(o:Int) / 268435456 % 16:=and15 _ (by omega) (by omega)
 have hw:IntKind.i64.wrap ((o:Int) / 268435456 % 16)=(o:Int) / 268435456 % 16:=by rw [IntKind.wrap_i64];omega
 go_enter Tryz.func145,Tryz.ntmps145
 go_wp2
 go_ret
 exact ⟨ret_int (by unfold fg;simp only [Nat.reduceMul,Nat.reduceSub,Nat.reducePow];omega),rfl⟩
theorem figure_9 (o:Nat) (ho:o < 18446744073709551616) (w:World):Calls Tryz.prog 145 #[.int .u64 o,.int .i64 9] w fun e w'=>e=.returned (.int .i64 (fg o 9))∧w'=w:=by
 have hA:bits .and .u64 ((o:Int) / 16777216) 15=(o:Int) / 16777216 % 16:=and15 _ (by omega) (by omega)
 have hw:IntKind.i64.wrap ((o:Int) / 16777216 % 16)=(o:Int) / 16777216 % 16:=by rw [IntKind.wrap_i64];omega
 go_enter Tryz.func145,Tryz.ntmps145
 go_wp2
 go_ret
 exact ⟨ret_int (by unfold fg;simp only [Nat.reduceMul,Nat.reduceSub,Nat.reducePow];omega),rfl⟩
theorem figure_10 (o:Nat) (ho:o < 18446744073709551616) (w:World):Calls Tryz.prog 145 #[.int .u64 o,.int .i64 10] w fun e w'=>e=.returned (.int .i64 (fg o 10))∧w'=w:=by
 have hA:bits .and .u64 ((o:Int) / 1048576) 15=(o:Int) / 1048576 % 16:=and15 _ (by omega) (by omega)
 have hw:IntKind.i64.wrap ((o:Int) / 1048576 % 16)=(o:Int) / 1048576 % 16:=by rw [IntKind.wrap_i64];omega
 go_enter Tryz.func145,Tryz.ntmps145
 go_wp2
 go_ret
 exact ⟨ret_int (by unfold fg;simp only [Nat.reduceMul,Nat.reduceSub,Nat.reducePow];omega),rfl⟩
theorem figure_11 (o:Nat) (ho:o < 18446744073709551616) (w:World):Calls Tryz.prog 145 #[.int .u64 o,.int .i64 11] w fun e w'=>e=.returned (.int .i64 (fg o 11))∧w'=w:=by
 have hA:bits .and .u64 ((o:Int) / 65536) 15=(o:Int) / 65536 % 16:=and15 _ (by omega) (by omega)
 have hw:IntKind.i64.wrap ((o:Int) / 65536 % 16)=(o:Int) / 65536 % 16:=by rw [IntKind.wrap_i64];omega
 go_enter Tryz.func145,Tryz.ntmps145
 go_wp2
 go_ret
 exact ⟨ret_int (by unfold fg;simp only [Nat.reduceMul,Nat.reduceSub,Nat.reducePow];omega),rfl⟩
theorem figure_12 (o:Nat) (ho:o < 18446744073709551616) (w:World):Calls Tryz.prog 145 #[.int .u64 o,.int .i64 12] w fun e w'=>e=.returned (.int .i64 (fg o 12))∧w'=w:=by
 have hA:bits .and .u64 ((o:Int) / 4096) 15=(o:Int) / 4096 % 16:=and15 _ (by omega) (by omega)
 have hw:IntKind.i64.wrap ((o:Int) / 4096 % 16)=(o:Int) / 4096 % 16:=by rw [IntKind.wrap_i64];omega
 go_enter Tryz.func145,Tryz.ntmps145
 go_wp2
 go_ret
 exact ⟨ret_int (by unfold fg;simp only [Nat.reduceMul,Nat.reduceSub,Nat.reducePow];omega),rfl⟩
theorem figure_13 (o:Nat) (ho:o < 18446744073709551616) (w:World):Calls Tryz.prog 145 #[.int .u64 o,.int .i64 13] w fun e w'=>e=.returned (.int .i64 (fg o 13))∧w'=w:=by
 have hA:bits .and .u64 ((o:Int) / 256) 15=(o:Int) / 256 % 16:=and15 _ (by omega) (by omega)
 have hw:IntKind.i64.wrap ((o:Int) / 256 % 16)=(o:Int) / 256 % 16:=by rw [IntKind.wrap_i64];omega
 go_enter Tryz.func145,Tryz.ntmps145
 go_wp2
 go_ret
 exact ⟨ret_int (by unfold fg;simp only [Nat.reduceMul,Nat.reduceSub,Nat.reducePow];omega),rfl⟩
theorem figure_14 (o:Nat) (ho:o < 18446744073709551616) (w:World):Calls Tryz.prog 145 #[.int .u64 o,.int .i64 14] w fun e w'=>e=.returned (.int .i64 (fg o 14))∧w'=w:=by
 have hA:bits .and .u64 ((o:Int) / 16) 15=(o:Int) / 16 % 16:=and15 _ (by omega) (by omega)
 have hw:IntKind.i64.wrap ((o:Int) / 16 % 16)=(o:Int) / 16 % 16:=by rw [IntKind.wrap_i64];omega
 go_enter Tryz.func145,Tryz.ntmps145
 go_wp2
 go_ret
 exact ⟨ret_int (by unfold fg;simp only [Nat.reduceMul,Nat.reduceSub,Nat.reducePow];omega),rfl⟩
theorem figure_15 (o:Nat) (ho:o < 18446744073709551616) (w:World):Calls Tryz.prog 145 #[.int .u64 o,.int .i64 15] w fun e w'=>e=.returned (.int .i64 (fg o 15))∧w'=w:=by
 have hA:bits .and .u64 ((o:Int)) 15=(o:Int) % 16:=and15 _ (by omega) (by omega)
 have hw:IntKind.i64.wrap ((o:Int) % 16)=(o:Int) % 16:=by rw [IntKind.wrap_i64];omega
 go_enter Tryz.func145,Tryz.ntmps145
 go_wp2
 go_ret
 exact ⟨ret_int (by unfold fg;simp only [Nat.reduceMul,Nat.reduceSub,Nat.reducePow];omega),rfl⟩
theorem figure_of (o i:Nat) (ho:o < 18446744073709551616) (hi:i < 16) (w:World):Calls Tryz.prog 145 #[.int .u64 o,.int .i64 i] w fun e w'=>e=.returned (.int .i64 (fg o i))∧w'=w:=by
 have hc:i=0∨i=1∨i=2∨i=3∨i=4∨i=5∨i=6∨i=7∨i=8∨i=9∨i=10∨i=11∨i=12∨i=13∨i=14∨i=15:=by omega
 rcases hc with rfl | rfl | rfl | rfl | rfl | rfl | rfl | rfl | rfl | rfl | rfl | rfl | rfl | rfl | rfl | rfl
 ·exact figure_0 o ho w
 ·exact figure_1 o ho w
 ·exact figure_2 o ho w
 ·exact figure_3 o ho w
 ·exact figure_4 o ho w
 ·exact figure_5 o ho w
 ·exact figure_6 o ho w
 ·exact figure_7 o ho w
 ·exact figure_8 o ho w
 ·exact figure_9 o ho w
 ·exact figure_10 o ho w
 ·exact figure_11 o ho w
 ·exact figure_12 o ho w
 ·exact figure_13 o ho w
 ·exact figure_14 o ho w
 ·exact figure_15 o ho w
def Z8:List Int:=List.replicate 8 0
def Z16:List Int:=List.replicate 16 0
def bt (B:List UInt8) (i:Nat):Nat:=(B.getD i 0).toNat
theorem bt_lt (B:List UInt8) (i:Nat):bt B i < 256:=(B.getD i 0).toNat_lt
theorem bt_eq (B:List UInt8) (i:Nat) (h:i < B.length):B[i].toNat=bt B i:=by simp [bt,h]
def wd (B:List UInt8) (i:Nat):Int:=((bt B (4*i)+256*bt B (4*i+1)+65536*bt B (4*i+2)+16777216*bt B (4*i+3):Nat):Int)
def mp (B:List UInt8) (k:Nat):List Int:=(List.range 16).map fun i=>if i < k then wd B i else 0
theorem mp_len (B:List UInt8) (k:Nat):(mp B k).length=16:=by simp [mp]
theorem mp_set (B:List UInt8) (k:Nat):(mp B k).set k (wd B k)=mp B (k+1):=by
 apply List.ext_getElem
 ·simp [mp]
 ·intro i h1 h2
  simp only [List.getElem_set,mp,List.getElem_map,List.getElem_range]
  by_cases h:k=i
  ·subst h;simp
  ·rw [if_neg h]
   by_cases h3:i < k
   ·rw [if_pos h3,if_pos (by omega)]
   ·rw [if_neg h3,if_neg (by omega)]
def wdc (B:List UInt8) (q:Nat):Nat→Int
 | 0=>0
 | 1=>(bt B (4*q):Nat)
 | 2=>(bt B (4*q)+256*bt B (4*q+1):Nat)
 | _=>(bt B (4*q)+256*bt B (4*q+1)+65536*bt B (4*q+2):Nat)
def mq (B:List UInt8) (q c:Nat):List Int:=(mp B q).set q (wdc B q c)
theorem mq_len (B:List UInt8) (q c:Nat):(mq B q c).length=16:=by simp [mq,mp_len]
theorem mq_at (B:List UInt8) (q c:Nat) (h:q < 16):at_ (mq B q c) q=wdc B q c:=at_set_same _ _ _ (by rw [mp_len];exact h)
theorem mq_set (B:List UInt8) (q c:Nat) (x:Int):(mq B q c).set q x=(mp B q).set q x:=by simp [mq]
theorem mq_zero (B:List UInt8) (q:Nat):mq B q 0=mp B q:=by
 apply List.ext_getElem
 ·simp [mq]
 ·intro i h1 h2
  simp only [mq,List.getElem_set]
  by_cases h:q=i
  ·subst h;simp [mp,wdc]
  ·rw [if_neg h]
theorem or_part (i:Nat) (hi:i≤24) (x y:Nat) (hx:x < 2 ^ i) (hy:y < 256):bits .or .u32 (x:Int) ((y*2 ^ i:Nat):Int)=((x+y*2 ^ i:Nat):Int):=by
 have hp:(2:Nat) ^ i≤2 ^ 24:=Nat.pow_le_pow_right (by decide) hi
 have hp0:0 < (2:Nat) ^ i:=Nat.two_pow_pos i
 have hym:y*2 ^ i < 4294967296:=by
  have:y*2 ^ i≤255*2 ^ 24:=Nat.mul_le_mul (by omega) hp
  omega
 rw [u32_or_nat _ _ (by omega) hym]
 have h:=Nat.two_pow_add_eq_or_of_lt hx y
 rw [Nat.or_comm,Nat.mul_comm y,← h];omega
theorem wdc_step (B:List UInt8) (q:Nat):bits .or .u32 (wdc B q 0) ((bt B (4*q):Nat):Int)=wdc B q 1∧bits .or .u32 (wdc B q 1) (((bt B (4*q+1):Nat):Int)*256)=wdc B q 2∧bits .or .u32 (wdc B q 2) (((bt B (4*q+2):Nat):Int)*65536)=wdc B q 3∧bits .or .u32 (wdc B q 3) (((bt B (4*q+3):Nat):Int)*16777216)=wd B q:=by
 have h0:=bt_lt B (4*q)
 have h1:=bt_lt B (4*q+1)
 have h2:=bt_lt B (4*q+2)
 have h3:=bt_lt B (4*q+3)
 refine ⟨?_,?_,?_,?_⟩
 ·have:=or_part 0 (by decide) 0 (bt B (4*q)) (by decide) h0
  simpa [wdc] using this
 ·have:=or_part 8 (by decide) (bt B (4*q)) (bt B (4*q+1)) (by omega) h1
  show bits .or .u32 ((bt B (4*q):Nat):Int) _=((bt B (4*q)+256*bt B (4*q+1):Nat):Int)
  rw [show ((bt B (4*q+1):Nat):Int)*256=((bt B (4*q+1)*2 ^ 8:Nat):Int) by omega,this];omega
 ·have:=or_part 16 (by decide) (bt B (4*q)+256*bt B (4*q+1)) (bt B (4*q+2)) (by omega) h2
  show bits .or .u32 ((bt B (4*q)+256*bt B (4*q+1):Nat):Int) _=((bt B (4*q)+256*bt B (4*q+1)+65536*bt B (4*q+2):Nat):Int)
  rw [show ((bt B (4*q+2):Nat):Int)*65536=((bt B (4*q+2)*2 ^ 16:Nat):Int) by omega,this];omega
 ·have:=or_part 24 (by decide) (bt B (4*q)+256*bt B (4*q+1)+65536*bt B (4*q+2)) (bt B (4*q+3)) (by omega) h3
  show bits .or .u32 ((bt B (4*q)+256*bt B (4*q+1)+65536*bt B (4*q+2):Nat):Int) _=((bt B (4*q)+256*bt B (4*q+1)+65536*bt B (4*q+2)+16777216*bt B (4*q+3):Nat):Int)
  rw [show ((bt B (4*q+3):Nat):Int)*16777216=((bt B (4*q+3)*2 ^ 24:Nat):Int) by omega,this];omega
def sp (H:List Int) (k:Nat):List Int:=(List.range 16).map fun i=>if i < 8 then (if i < k then at_ H i else 0) else (if i - 8 < k then at_ firstL (i - 8) else 0)
theorem sp_len (H:List Int) (k:Nat):(sp H k).length=16:=by simp [sp]
theorem sp_set (H:List Int) (k:Nat) (hk:k < 8):((sp H k).set k (at_ H k)).set (k+8) (at_ firstL k)=sp H (k+1):=by
 apply List.ext_getElem
 ·simp [sp]
 ·intro i h1 h2
  simp only [List.getElem_set,sp,List.getElem_map,List.getElem_range]
  by_cases h8:k+8=i
  ·subst h8
   rw [if_pos rfl,if_neg (by omega),if_pos (by omega),Nat.add_sub_cancel]
  ·rw [if_neg h8]
   by_cases h:k=i
   ·subst h
    rw [if_pos rfl,if_pos hk,if_pos (by omega)]
   ·rw [if_neg h]
    by_cases hi:i < 8
    ·rw [if_pos hi,if_pos hi]
     by_cases h3:i < k
     ·rw [if_pos h3,if_pos (by omega)]
     ·rw [if_neg h3,if_neg (by omega)]
    ·rw [if_neg hi,if_neg hi]
     by_cases h3:i - 8 < k
     ·rw [if_pos h3,if_pos (by omega)]
     ·rw [if_neg h3,if_neg (by omega)]
def spreadL (H:List Int) (t:Nat) (last:Bool):List Int :=
 let V:=((sp H 8).set 12 (bits .xor .u32 (at_ (sp H 8) 12) ((t:Int) % 4294967296))).set 13 (bits .xor .u32 (at_ (sp H 8) 13) ((t:Int) / 4294967296))
 if last then V.set 14 (bits .xor .u32 (at_ (sp H 8) 14) 4294967295) else V
theorem spreadL_len (H:List Int) (t:Nat) (last:Bool):(spreadL H t last).length=16:=by
 unfold spreadL
 cases last<;>simp [sp_len]
attribute [local go_sem] ba_size ba_get ba_extract ba_append wrap_byte wrap_u64_byte take_drop_end wrap_u32_byte wv_get wv_getE wv_set wv_size
set_option maxHeartbeats 1000000 in
theorem words_any (B:List UInt8) (hB:B.length=64) (w:World) :
 Calls Tryz.prog 142 #[.string ⟨B.toArray⟩] w fun e w'=>e=.returned (.agg (wv (mp B 16)))∧Below w.heap.size w w':=by
 go_enter Tryz.func142,Tryz.ntmps142
 go_wp2
 go_loopw [7] (fun i wr=>∃ q c:Nat,q≤16∧c < 4∧(q=16→c=0)∧i=.int .i64 ((4*q+c:Nat):Int)∧Hid (Row wr w.heap.size 162 Z16)∧Hid (Row wr (w.heap.size+1) 162 (mq B q c))∧Hid (wr.heap.size=w.heap.size+2)∧Below w.heap.size w wr) (fun i _=>64 - (RowKit.intOf i).toNat)
 case atStart =>
  refine ⟨0,0,by omega,by omega,by omega,rfl,?_,?_,?_,((Below.refl _ _).alloc (Nat.le_refl _) _).alloc (by simp) _⟩
  ·exact heap_alloc2_old w _ _
  ·exact heap_alloc2_new w _ _
  ·show _=_
   simp
 case round =>
  obtain ⟨q,c,hq,hc,hqc,rfl,HR1,HR2,HS,hbw⟩:=hrel
  by_cases hlt:q < 16
  ·have hl:=mq_len B q c
   have c3:wr.cell? ⟨w.heap.size+1,q,none⟩=some (.int .u32 (wdc B q c)):=by rw [HR2.out.cell q (by omega),at_eq,mq_at B q c hlt]
   have f3:=HR2.out.frozen q
   have hcc:c=0∨c=1∨c=2∨c=3:=by omega
   have wq:IntKind.i64.wrap (q:Int)=q:=by rw [IntKind.wrap_i64];omega
   have iq:(q:Int) < 16:=by omega
   rcases hcc with rfl | rfl | rfl | rfl
   ·have hk:4*(q:Int) < 64:=by omega
    have hp:(0:Int)≤4*(q:Int):=by omega
    have tq:(4*(q:Int)).tdiv 4=q:=by rw [Int.tdiv_eq_ediv_of_nonneg hp];omega
    have tm:(4*(q:Int)).tmod 4=0:=by rw [Int.tmod_eq_emod_of_nonneg hp];omega
    have w8:IntKind.i64.wrap 0=0∧IntKind.i64.wrap 8=8∧IntKind.i64.wrap 16=16∧IntKind.i64.wrap 24=24:=by decide +kernel
    obtain ⟨w80,w81,w82,w83⟩:=w8
    have tn:(4*(q:Int)).toNat=4*q:=by omega
    have b0:=B[4*q].toNat_lt
    have s0:IntKind.u32.wrap ((B[4*q].toNat:Int)*1)=(B[4*q].toNat:Int)*1:=by rw [IntKind.wrap_u32'];omega
    go_wp2
    refine region_tail 14 (by kernel_rfl) (by kernel_rfl) ?_
    simp only [List.take_succ_cons,List.take_zero,List.drop_succ_cons,List.drop_zero]
    repeat still_step
    refine wpStill_nil ?_
    go_wp2
    go_roundw
    case rel =>
     have hv:bits .or .u32 (wdc B q 0) (B[4*q].toNat:Int)=wdc B q 1:=by rw [bt_eq B _ (by omega)];exact (wdc_step B q).1
     rw [hv]
     refine ⟨q,1,by omega,by omega,by omega,by go_num,(HR1.out.other _ _ _ (by omega)).drew,?_,?_,(hbw.setCell (by simp) _).drew⟩
     ·show Row _ _ _ ((mp B q).set q (wdc B q 1))
      rw [← mq_set B q 0]
      exact (HR2.out.set q _).drew
     ·have:=HS.out
      show _=_
      simpa using this
    case measure=>simp [RowKit.intOf];omega
   ·have hk:4*(q:Int)+1 < 64:=by omega
    have hp:(0:Int)≤4*(q:Int)+1:=by omega
    have tq:(4*(q:Int)+1).tdiv 4=q:=by rw [Int.tdiv_eq_ediv_of_nonneg hp];omega
    have tm:(4*(q:Int)+1).tmod 4=1:=by rw [Int.tmod_eq_emod_of_nonneg hp];omega
    have w8:IntKind.i64.wrap 0=0∧IntKind.i64.wrap 8=8∧IntKind.i64.wrap 16=16∧IntKind.i64.wrap 24=24:=by decide +kernel
    obtain ⟨w80,w81,w82,w83⟩:=w8
    have tn:(4*(q:Int)+1).toNat=4*q+1:=by omega
    have b0:=B[4*q+1].toNat_lt
    have s0:IntKind.u32.wrap ((B[4*q+1].toNat:Int)*256)=(B[4*q+1].toNat:Int)*256:=by rw [IntKind.wrap_u32'];omega
    go_wp2
    refine region_tail 14 (by kernel_rfl) (by kernel_rfl) ?_
    simp only [List.take_succ_cons,List.take_zero,List.drop_succ_cons,List.drop_zero]
    repeat still_step
    refine wpStill_nil ?_
    go_wp2
    go_roundw
    case rel =>
     have hv:bits .or .u32 (wdc B q 1) ((B[4*q+1].toNat:Int)*256)=wdc B q 2:=by rw [bt_eq B _ (by omega)];exact (wdc_step B q).2.1
     rw [hv]
     refine ⟨q,2,by omega,by omega,by omega,by go_num,(HR1.out.other _ _ _ (by omega)).drew,?_,?_,(hbw.setCell (by simp) _).drew⟩
     ·show Row _ _ _ ((mp B q).set q (wdc B q 2))
      rw [← mq_set B q 1]
      exact (HR2.out.set q _).drew
     ·have:=HS.out
      show _=_
      simpa using this
    case measure=>simp [RowKit.intOf];omega
   ·have hk:4*(q:Int)+2 < 64:=by omega
    have hp:(0:Int)≤4*(q:Int)+2:=by omega
    have tq:(4*(q:Int)+2).tdiv 4=q:=by rw [Int.tdiv_eq_ediv_of_nonneg hp];omega
    have tm:(4*(q:Int)+2).tmod 4=2:=by rw [Int.tmod_eq_emod_of_nonneg hp];omega
    have w8:IntKind.i64.wrap 0=0∧IntKind.i64.wrap 8=8∧IntKind.i64.wrap 16=16∧IntKind.i64.wrap 24=24:=by decide +kernel
    obtain ⟨w80,w81,w82,w83⟩:=w8
    have tn:(4*(q:Int)+2).toNat=4*q+2:=by omega
    have b0:=B[4*q+2].toNat_lt
    have s0:IntKind.u32.wrap ((B[4*q+2].toNat:Int)*65536)=(B[4*q+2].toNat:Int)*65536:=by rw [IntKind.wrap_u32'];omega
    go_wp2
    refine region_tail 14 (by kernel_rfl) (by kernel_rfl) ?_
    simp only [List.take_succ_cons,List.take_zero,List.drop_succ_cons,List.drop_zero]
    repeat still_step
    refine wpStill_nil ?_
    go_wp2
    go_roundw
    case rel =>
     have hv:bits .or .u32 (wdc B q 2) ((B[4*q+2].toNat:Int)*65536)=wdc B q 3:=by rw [bt_eq B _ (by omega)];exact (wdc_step B q).2.2.1
     rw [hv]
     refine ⟨q,3,by omega,by omega,by omega,by go_num,(HR1.out.other _ _ _ (by omega)).drew,?_,?_,(hbw.setCell (by simp) _).drew⟩
     ·show Row _ _ _ ((mp B q).set q (wdc B q 3))
      rw [← mq_set B q 2]
      exact (HR2.out.set q _).drew
     ·have:=HS.out
      show _=_
      simpa using this
    case measure=>simp [RowKit.intOf];omega
   ·have hk:4*(q:Int)+3 < 64:=by omega
    have hp:(0:Int)≤4*(q:Int)+3:=by omega
    have tq:(4*(q:Int)+3).tdiv 4=q:=by rw [Int.tdiv_eq_ediv_of_nonneg hp];omega
    have tm:(4*(q:Int)+3).tmod 4=3:=by rw [Int.tmod_eq_emod_of_nonneg hp];omega
    have w8:IntKind.i64.wrap 0=0∧IntKind.i64.wrap 8=8∧IntKind.i64.wrap 16=16∧IntKind.i64.wrap 24=24:=by decide +kernel
    obtain ⟨w80,w81,w82,w83⟩:=w8
    have tn:(4*(q:Int)+3).toNat=4*q+3:=by omega
    have b0:=B[4*q+3].toNat_lt
    have s0:IntKind.u32.wrap ((B[4*q+3].toNat:Int)*16777216)=(B[4*q+3].toNat:Int)*16777216:=by rw [IntKind.wrap_u32'];omega
    go_wp2
    refine region_tail 14 (by kernel_rfl) (by kernel_rfl) ?_
    simp only [List.take_succ_cons,List.take_zero,List.drop_succ_cons,List.drop_zero]
    repeat still_step
    refine wpStill_nil ?_
    go_wp2
    go_roundw
    case rel =>
     have hv:bits .or .u32 (wdc B q 3) ((B[4*q+3].toNat:Int)*16777216)=wd B q:=by rw [bt_eq B _ (by omega)];exact (wdc_step B q).2.2.2
     rw [hv]
     refine ⟨q+1,0,by omega,by omega,by omega,by go_num,(HR1.out.other _ _ _ (by omega)).drew,?_,?_,(hbw.setCell (by simp) _).drew⟩
     ·rw [mq_zero,← mp_set,← mq_set B q 3]
      exact (HR2.out.set q _).drew
     ·have:=HS.out
      show _=_
      simpa using this
    case measure=>simp [RowKit.intOf];omega
  ·obtain rfl:q=16:=by omega
   obtain rfl:c=0:=hqc rfl
   rw [mq_zero] at HR2
   have hsz:(Tryz.prog.info? 162).map (·.size)=some 16:=by kernel_rfl
   have r1:wr.heap[w.heap.size]?=some (.cells (wv Z16) 162 (0,0)):=HR1.out
   have r2:wr.heap[w.heap.size+1]?=some (.cells (wv (mp B 16)) 162 (0,0)):=HR2.out
   go_wp2_with (first | (refine wpList_load_row rfl 162 _ rfl (w.heap.size+1) rfl 162 (wv (mp B 16)) (0,0) _ ?hg Tryz.underlying162 rfl ?hi ?_) | (refine wpList_store_row rfl 162 _ _ rfl w.heap.size (wv (mp B 16)) rfl rfl 162 (wv Z16) ?hg2 ?hi2 ?ho2 ?h12 ?_))
   case hi=>simp [mp_len]
   case hi2=>simp [mp_len]
   case ho2=>simp [mp_len,Z16]
   case h12=>exact wv_one _
   refine bodyPost_ret (v:=.agg (wv (mp B 16))) (results_cell_row Tryz.results142 _ _ w.heap.size 162 (wv (mp B 16)) (0,0) _ rfl ?_ Tryz.underlying162 rfl ?_) rfl ⟨rfl,?_⟩
   ·exact setRow_heap _ _ _ _ _ _ r1
   ·rw [hsz,wv_size,mp_len]
   ·exact below_setRow hbw (Nat.le_refl _) _
end Go.Proofs.YthamoeekiglphaaGreatDoor
namespace Go.Proofs.YthamoeekiglphaaGreatDoor
set_option maxRecDepth 100000
open Go.RowKit
set_option linter.unusedVariables false
attribute [local go_sem] wv_get wv_getE wv_set wv_size
set_option maxRecDepth 100000 in
set_option maxHeartbeats 1000000 in
theorem spread_any (H:List Int) (hH:H.length=8) (t:Nat) (ht:t < 18446744073709551616) (last:Bool) (w:World) (hG:G w) :
 Calls Tryz.prog 143 #[.agg (wv H),.int .u64 t,.bool last] w fun e w'=>e=.returned (.agg (wv (spreadL H t last)))∧Below w.heap.size w w':=by
 have hHs:(wv H).size=8:=by rw [wv_size,hH]
 go_enter Tryz.func143,Tryz.ntmps143
 go_wp2
 go_loopw [9] (fun i wr=>∃ k:Nat,k≤8∧i=.int .i64 k∧Hid (Row wr w.heap.size 99 H)∧Hid (Row wr (w.heap.size+1) 162 Z16)∧Hid (Row wr (w.heap.size+1+1) 162 (sp H k))∧Hid (wr.heap.size=w.heap.size+3)∧Below w.heap.size w wr) (fun i _=>8 - (RowKit.intOf i).toNat)
 case atStart =>
  refine ⟨0,by omega,rfl,?_,?_,?_,?_,(((Below.refl _ _).alloc (Nat.le_refl _) _).alloc (by simp) _).alloc (by simp;omega) _⟩
  ·exact ((Row.new w H 99).alloc _).alloc _
  ·exact (heap_alloc_old _ _ (by simp)).trans (heap_alloc2_new w _ _)
  ·have h:=heap_alloc_new ((w.alloc (.cells (wv H) 99)).alloc (.cells (wv Z16) 162)) (.cells (wv (sp H 0)) 162)
   simp only [World.size_alloc] at h
   exact h
  ·show _=_
   simp
 case round =>
  obtain ⟨k,hk,rfl,HR1,HR2,HR3,HS,hbw⟩:=hrel
  by_cases hlt:k < 8
  ·have i0:(k:Int) < 8:=by omega
   have hGr:G wr:=hG.below hbw hG.size
   have c0:=hGr.first k hlt
   have c1:wr.cell? ⟨w.heap.size,k,none⟩=some (.int .u32 (at_ H k)):=by rw [HR1.out.cell k (by omega),at_eq]
   have hl3:=sp_len H k
   have c3:wr.cell? ⟨w.heap.size+1+1,k,none⟩=some (.int .u32 (at_ (sp H k) k)):=by rw [HR3.out.cell k (by omega),at_eq]
   have f3:=HR3.out.frozen k
   have c4:wr.cell? ⟨w.heap.size+1+1,k+8,none⟩=some (.int .u32 (at_ (sp H k) (k+8))):=by rw [HR3.out.cell (k+8) (by omega),at_eq]
   have f4:=HR3.out.frozen (k+8)
   go_wp2
   go_roundw
   case rel =>
    refine ⟨k+1,by omega,by go_num,(HR1.out.other _ _ _ (by omega)).other _ _ _ (by omega),(HR2.out.other _ _ _ (by omega)).other _ _ _ (by omega),?_,?_,(hbw.setCell (by simp;omega) _).setCell (by simp;omega) _⟩
    ·rw [← sp_set H k hlt]
     exact (HR3.out.set k _).set (k+8) _
    ·have:=HS.out
     show _=_
     simpa using this
   case measure=>simp [RowKit.intOf];omega
  ·obtain rfl:k=8:=by omega
   have hl3:=sp_len H 8
   have c12:wr.cell? ⟨w.heap.size+1+1,12,none⟩=some (.int .u32 (at_ (sp H 8) 12)):=by rw [HR3.out.cell 12 (by omega),at_eq]
   have c13:wr.cell? ⟨w.heap.size+1+1,13,none⟩=some (.int .u32 (at_ (sp H 8) 13)):=by rw [HR3.out.cell 13 (by omega),at_eq]
   have c14:wr.cell? ⟨w.heap.size+1+1,14,none⟩=some (.int .u32 (at_ (sp H 8) 14)):=by rw [HR3.out.cell 14 (by omega),at_eq]
   have f12:=HR3.out.frozen 12
   have f13:=HR3.out.frozen 13
   have f14:=HR3.out.frozen 14
   have hsz:(Tryz.prog.info? 162).map (·.size)=some 16:=by kernel_rfl
   cases last with
   | true =>
     obtain ⟨X,hX⟩:∃ X,(((sp H 8).set 12 (bits .xor .u32 (at_ (sp H 8) 12) ((t:Int) % 4294967296))).set 13 (bits .xor .u32 (at_ (sp H 8) 13) ((t:Int) / 4294967296))).set 14 (bits .xor .u32 IntKind.u32.max (at_ (sp H 8) 14))=X:=⟨_,rfl⟩
     have hlX:X.length=16:=by rw [← hX];simp [sp_len]
     have hXs:spreadL H t true=X:=by
      rw [← hX]
      unfold spreadL
      rw [if_pos rfl,xor_comm32 (at_ (sp H 8) 14)]
      rfl
     go_wp2_with (first | (refine wpList_load_row rfl 162 _ rfl (w.heap.size+1+1) rfl 162 (wv X) (0,0) _ ?hg Tryz.underlying162 rfl ?hi ?_) | (refine wpList_store_row rfl 162 _ _ rfl (w.heap.size+1) (wv X) rfl rfl 162 (wv Z16) ?hg2 ?hi2 ?ho2 ?h12 ?_))
     case hg=>rw [← hX];exact ((HR3.out.set 12 _).set 13 _).set 14 _
     case hi=>rw [hsz,wv_size,hlX]
     case hg2=>exact ((HR2.out.other _ _ _ (by omega)).other _ _ _ (by omega)).other _ _ _ (by omega)
     case hi2=>rw [hsz,wv_size,hlX]
     case ho2=>rw [wv_size,wv_size,hlX];rfl
     case h12=>exact wv_one _
     refine bodyPost_ret (v:=.agg (wv X)) (results_cell_row Tryz.results143 _ _ (w.heap.size+1) 162 (wv X) (0,0) _ rfl ?_ Tryz.underlying162 rfl ?_) rfl ⟨by first | rfl | rw [hXs],?_⟩
     ·exact setRow_heap _ _ _ _ _ _ (((HR2.out.other _ _ _ (by omega)).other _ _ _ (by omega)).other _ _ _ (by omega))
     ·rw [hsz,wv_size,hlX]
     ·exact below_setRow (((hbw.setCell (by simp;omega) _).setCell (by simp;omega) _).setCell (by simp;omega) _) (by omega) _
   | false =>
     obtain ⟨X,hX⟩:∃ X,((sp H 8).set 12 (bits .xor .u32 (at_ (sp H 8) 12) ((t:Int) % 4294967296))).set 13 (bits .xor .u32 (at_ (sp H 8) 13) ((t:Int) / 4294967296))=X:=⟨_,rfl⟩
     have hlX:X.length=16:=by rw [← hX];simp [sp_len]
     have hXs:spreadL H t false=X:=by
      rw [← hX]
      rfl
     go_wp2_with (first | (refine wpList_load_row rfl 162 _ rfl (w.heap.size+1+1) rfl 162 (wv X) (0,0) _ ?hgF Tryz.underlying162 rfl ?hiF ?_) | (refine wpList_store_row rfl 162 _ _ rfl (w.heap.size+1) (wv X) rfl rfl 162 (wv Z16) ?hg2F ?hi2F ?ho2F ?h12F ?_))
     case hgF=>rw [← hX];exact (HR3.out.set 12 _).set 13 _
     case hiF=>rw [hsz,wv_size,hlX]
     case hg2F=>exact (HR2.out.other _ _ _ (by omega)).other _ _ _ (by omega)
     case hi2F=>rw [hsz,wv_size,hlX]
     case ho2F=>rw [wv_size,wv_size,hlX];rfl
     case h12F=>exact wv_one _
     refine bodyPost_ret (v:=.agg (wv X)) (results_cell_row Tryz.results143 _ _ (w.heap.size+1) 162 (wv X) (0,0) _ rfl ?_ Tryz.underlying162 rfl ?_) rfl ⟨by first | rfl | rw [hXs],?_⟩
     ·exact setRow_heap _ _ _ _ _ _ ((HR2.out.other _ _ _ (by omega)).other _ _ _ (by omega))
     ·rw [hsz,wv_size,hlX]
     ·exact below_setRow ((hbw.setCell (by simp;omega) _).setCell (by simp;omega) _) (by omega) _
end Go.Proofs.YthamoeekiglphaaGreatDoor
namespace Go.Proofs.YthamoeekiglphaaGreatDoor
set_option maxRecDepth 100000
open Go.RowKit
set_option linter.unusedVariables false
def vr (B:List UInt8) (V:List Int):Nat→List Int
 | 0=>V
 | r+1=>rk (mp B 16) (vr B V r) (sg r) 8
theorem vr_len (B:List UInt8) (V:List Int) (h:V.length=16) (r:Nat):(vr B V r).length=16:=by
 induction r with
 | zero=>exact h
 | succ r ih=>exact rk_len _ _ _ ih 8
def hx (H V:List Int) (k:Nat):List Int:=(List.range 8).map fun i=>if i < k then bits .xor .u32 (at_ H i) (bits .xor .u32 (at_ V i) (at_ V (i+8))) else at_ H i
theorem hx_len (H V:List Int) (k:Nat):(hx H V k).length=8:=by simp [hx]
theorem hx_at (H V:List Int) (k:Nat) (h:k < 8):at_ (hx H V k) k=at_ H k:=by
 have e:at_ (hx H V k) k=(hx H V k)[k]'(by rw [hx_len];exact h):=(at_eq _ _ _).symm
 rw [e]
 simp [hx]
theorem hx_zero (H V:List Int) (h:H.length=8):hx H V 0=H:=by
 apply List.ext_getElem
 ·simp [hx,h]
 ·intro i h1 h2
  simp [hx,at_,h2]
theorem hx_set (H V:List Int) (k:Nat) (x:Int) (hx':x=bits .xor .u32 (at_ H k) (bits .xor .u32 (at_ V k) (at_ V (k+8)))):(hx H V k).set k x=hx H V (k+1):=by
 subst hx'
 apply List.ext_getElem
 ·simp [hx]
 ·intro i h1 h2
  simp only [List.getElem_set,hx,List.getElem_map,List.getElem_range]
  by_cases h:k=i
  ·subst h;simp
  ·rw [if_neg h]
   by_cases h3:i < k
   ·rw [if_pos h3,if_pos (by omega)]
   ·rw [if_neg h3,if_neg (by omega)]
def blockL (H:List Int) (B:List UInt8) (t:Nat) (last:Bool):List Int:=hx H (vr B (spreadL H t last) 10) 8
theorem blockL_len (H:List Int) (B:List UInt8) (t:Nat) (last:Bool):(blockL H B t last).length=8:=hx_len _ _ _
attribute [local go_sem] wv_get wv_getE wv_set wv_size
def startL (k:Int):List Int:=firstL.set 0 (bits .xor .u32 (at_ firstL 0) (bits .xor .u32 16842784 (256*k)))
theorem psize8:(Tryz.prog.info? 99).map (·.size)=some 8:=by kernel_rfl
set_option maxHeartbeats 1000000 in
theorem start_good (k:Int) (h0:0≤k) (h1:k≤32) (w:World) (hG:G w) :
 Calls Tryz.prog 111 #[.int .i64 k] w fun e w'=>e=.returned (.tuple #[.agg (wv (startL k)),.int .i64 0])∧Below w.heap.size w w':=by
 have hg3:=hG.size
 obtain ⟨tg,hg⟩:=hG.g0
 go_enter Tryz.func111,Tryz.ntmps111
 go_upto_region 4 with (first | (refine wpList_load_row rfl 99 _ rfl 0 rfl tg (wv firstL) (0,0) _ ?hg1 Tryz.underlying99 rfl ?hi1 ?_) | (refine wpList_store_row rfl 99 _ _ rfl (w.heap.size+1) (wv firstL) rfl rfl 99 (wv Z8) ?hg2 ?hi2 ?ho2 ?h12 ?_))
 case hg1=>exact (heap_alloc_old w _ (by omega)).trans hg
 case hi1=>rw [psize8,wv_size];rfl
 case hg2=>exact heap_alloc2_new w _ _
 case hi2=>rw [psize8,wv_size];rfl
 case ho2=>rfl
 case h12=>exact wv_one _
 change Code.wp _ _ _ _ (((w.alloc (.cells (wv Z8) 99)).alloc (.cells (wv Z8) 99)).setRow (w.heap.size+1) (wv firstL))
 obtain ⟨w2,hw2⟩:∃ w2,((w.alloc (.cells (wv Z8) 99)).alloc (.cells (wv Z8) 99)).setRow (w.heap.size+1) (wv firstL)=w2:=⟨_,rfl⟩
 have hL2:Row w2 (w.heap.size+1) 99 firstL:=by rw [← hw2];exact setRow_heap _ _ _ _ _ _ (heap_alloc2_new w _ _)
 have hZ2:Row w2 w.heap.size 99 Z8:=by rw [← hw2];exact Row.setRow_other (V:=Z8) (heap_alloc2_old w _ _) _ _ (by omega)
 have hbw2:Below w.heap.size w w2:=by rw [← hw2];exact below_setRow (((Below.refl _ _).alloc (Nat.le_refl _) _).alloc (by simp) _) (by omega) _
 rw [hw2]
 clear hw2
 have c0:w2.cell? ⟨w.heap.size+1,0,none⟩=some (.int .u32 (at_ firstL 0)):=by rw [hL2.cell 0 (by decide),at_eq]
 have f0:=hL2.frozen 0
 have x0:IntKind.i64.wrap (256*k)=256*k:=by rw [IntKind.wrap_i64];omega
 have x1:IntKind.u32.wrap (256*k)=256*k:=by rw [IntKind.wrap_u32'];omega
 obtain ⟨R,hR⟩:∃ R,startL k=R:=⟨_,rfl⟩
 have lR:R.length=8:=by rw [← hR];rfl
 go_wp2_with (first | (refine wpList_load_row rfl 99 _ rfl (w.heap.size+1) rfl 99 (wv R) (0,0) _ ?hg3 Tryz.underlying99 rfl ?hi3 ?_) | (refine wpList_store_row rfl 99 _ _ rfl w.heap.size (wv R) rfl rfl 99 (wv Z8) ?hg4 ?hi4 ?ho4 ?h14 ?_))
 case hg3=>rw [← hR];exact hL2.set 0 _
 case hi3=>rw [psize8,wv_size,lR]
 case hg4=>exact hZ2.other _ _ _ (by omega)
 case hi4=>rw [psize8,wv_size,lR]
 case ho4=>rw [wv_size,wv_size,lR];rfl
 case h14=>exact wv_one _
 refine bodyPost_ret (v:=.tuple #[.agg (wv R),.int .i64 0]) (results_row_tmp Tryz.results111 _ _ w.heap.size 99 (wv R) (0,0) _ rfl ?_ Tryz.underlying99 rfl ?_) rfl ⟨by first | rfl | rw [hR],?_⟩
 ·exact setRow_heap _ _ _ _ _ _ (hZ2.other _ _ _ (by omega))
 ·rw [psize8,wv_size,lR]
 ·exact below_setRow (hbw2.setCell (by simp) _) (by omega) _
end Go.Proofs.YthamoeekiglphaaGreatDoor
namespace Go.Proofs.YthamoeekiglphaaGreatDoor
set_option maxRecDepth 100000
open Go.RowKit
theorem strCells_list (l:List UInt8):Lib.strCells ⟨l.toArray⟩=Lib.byteCells l:=by
 simp [Lib.strCells,Lib.byteCells]
theorem byteCells_append (a b:List UInt8):Lib.byteCells a++Lib.byteCells b=Lib.byteCells (a++b):=by
 simp [Lib.byteCells]
set_option linter.unusedVariables false
def bv (l:List UInt8):Array Value:=(Lib.byteCells l).toArray
theorem bv_size (l:List UInt8):(bv l).size=l.length:=by simp [bv,Lib.byteCells]
theorem bv_get (l:List UInt8) (i:Nat) (h:i < l.length):(bv l)[i]?=some (.int .u8 ((l[i]'h).toNat:Int)):=by simp [bv,Lib.byteCells,h]
theorem bv_set (l:List UInt8) (i:Nat) (x:UInt8):(bv l).setIfInBounds i (.int .u8 (x.toNat:Int))=bv (l.set i x):=by simp [bv,Lib.byteCells]
def BRow (w:World) (g:Nat) (t:TypeId) (l:List UInt8):Prop:=w.heap[g]?=some (.cells (bv l) t (0,0))
theorem BRow.cell {w:World} {g:Nat} {t:TypeId} {l:List UInt8} (h:BRow w g t l) (i:Nat) (hi:i < l.length):w.cell? ⟨g,i,none⟩=some (.int .u8 ((l[i]'hi).toNat:Int)):=by
 rw [cell_of_row w g i _ _ _ h,bv_get l i hi]
theorem BRow.frozen {w:World} {g:Nat} {t:TypeId} {l:List UInt8} (h:BRow w g t l) (i:Nat):w.frozen? ⟨g,i,none⟩=false:=frozen_of_row w g i _ _ h
theorem BRow.set {w:World} {g:Nat} {t:TypeId} {l:List UInt8} (h:BRow w g t l) (i:Nat) (x:UInt8):BRow (w.setCell ⟨g,i,none⟩ (.int .u8 (x.toNat:Int))) g t (l.set i x):=by
 have:=heap_setCell_same w g i _ _ (.int .u8 (x.toNat:Int)) h
 unfold BRow
 rw [this,bv_set]
theorem BRow.string {P:Program} {w:World} {g:Nat} {t:TypeId} {l:List UInt8} (h:BRow w g t l) (src e dst:TypeId) (hs:P.underlying src=some (.slice e)) (he:P.underlying e=some (.int .u8)) (hd:P.underlying dst=some .string) (n cap:Nat) (hn:l.length=n) :
 (convert src dst (.slice (some ⟨g,0,none⟩) n cap)).run P w=.ok (.string ⟨l.toArray⟩) w:=by
 have:=run_convert_bytes_arg (P:=P) w src e hs he g 0 n cap (l.map fun b=>(b.toNat:Int)) (by simpa using hn) (fun i hi=>by
  rw [Nat.zero_add,h.cell i (by omega)]
  simp [show i < l.length by omega]) dst hd
 rw [this]
 have e:strOfNums (l.map fun b=>(b.toNat:Int))=⟨l.toArray⟩:=by
  apply ByteArray.ext
  show ((l.map fun b=>(b.toNat:Int)).map fun n=>UInt8.ofNat n.toNat).toArray=l.toArray
  rw [List.map_map]
  congr 1
  refine (List.map_congr_left fun b _=>?_).trans (List.map_id l)
  show UInt8.ofNat ((b.toNat:Int)).toNat=b
  simp
 rw [e]
theorem wpList_copy_str {P:Program} {w:World} {ops:Array Oper} {rest:List Oper} {o:Oper} {a:Act} {Q:Exit→Act→World→Prop} (hgd:o.guard=none) (d x:Operand) (dT sT:TypeId)
 (hop:o.op=Op.call { callee:=Callee.builtin Builtin.copy,args:=#[d,x],argTypes:=#[dT,sT] }) (elem:TypeId) (hu:P.underlying dT=some (.slice elem)) (hs:(P.info? elem).map (·.size)=some 1)
 (g dLen dCap:Nat) (hd:a.eval d=.slice (some ⟨g,0,none⟩) dLen dCap) (l m:List UInt8) (hx:a.eval x=.string ⟨m.toArray⟩) (t:TypeId) (hg:BRow w g t l) (h1:m.length≤dLen) (h2:m.length≤l.length)
 (h:wpList P ops Q rest (a.put o.dst (goInt m.length)) (w.setRow g (bv (m++l.drop m.length)))):wpList P ops Q (o::rest) a w:=by
 have hrun:=Lib.run_copy_row_string (P:=P) w dT sT o.type elem g 0 dLen dCap ⟨m.toArray⟩ (bv l) t hu hs hg (by rw [ba_size];exact h1) (by rw [ba_size,bv_size];omega)
 have e:((bv l).toList.take 0++Lib.byteCells (⟨m.toArray⟩:ByteArray).data.toList++(bv l).toList.drop (0+(⟨m.toArray⟩:ByteArray).size)).toArray=bv (m++l.drop m.length):=by
  rw [ba_size]
  simp [bv,Lib.byteCells]
 rw [e,ba_size] at hrun
 refine wpList_plain hgd fun _ hK=>?_
 unfold Oper.wp
 simp [execOp,hop,resolve,invoke,builtin,hd,hx,hrun,Result.andThen]
 exact hK _ _ h
def padL (l:List UInt8):List UInt8:=l++List.replicate (64 - l.length) 0
theorem padL_len (l:List UInt8) (h:l.length≤64):(padL l).length=64:=by simp [padL];omega
def Z64:List UInt8:=List.replicate 64 0
set_option maxHeartbeats 1000000 in
theorem fill_any (l:List UInt8) (hl:l.length≤64) (w:World) :
 Calls Tryz.prog 135 #[.string ⟨l.toArray⟩] w fun e w'=>e=.returned (.string ⟨(padL l).toArray⟩)∧Below w.heap.size w w':=by
 have hpad:l++Z64.drop l.length=padL l:=by unfold Z64;rw [List.drop_replicate];rfl
 have hb:(Tryz.prog.info? 5).map (·.size)=some 1:=by kernel_rfl
 go_enter Tryz.func135,Tryz.ntmps135
 go_upto_region 3 with (refine wpList_copy_str rfl _ _ 94 9 rfl 5 Tryz.underlying94 hb w.heap.size 64 64 rfl Z64 l rfl 200 (heap_alloc_new w _) hl ?h2 ?_)
 case h2=>exact hl
 change Code.wp _ _ _ _ ((w.alloc (.cells (bv Z64) 200)).setRow w.heap.size (bv (l++Z64.drop l.length)))
 rw [hpad]
 obtain ⟨w2,hw2⟩:∃ w2,(w.alloc (.cells (bv Z64) 200)).setRow w.heap.size (bv (padL l))=w2:=⟨_,rfl⟩
 have hrow:BRow w2 w.heap.size 200 (padL l):=by rw [← hw2];exact setRow_heap _ _ _ _ _ _ (heap_alloc_new w _)
 have hbw:Below w.heap.size w w2:=by rw [← hw2];exact below_setRow ((Below.refl _ _).alloc (Nat.le_refl _) _) (Nat.le_refl _) _
 have hconv:=hrow.string (P:=Tryz.prog) 94 5 9 (by kernel_rfl) (by kernel_rfl) (by kernel_rfl) 64 64 (padL_len l hl)
 rw [hw2]
 clear hw2
 go_wp2
 go_ret
 exact ⟨rfl,hbw⟩
end Go.Proofs.YthamoeekiglphaaGreatDoor
