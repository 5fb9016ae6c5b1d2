/-
  Plain facts on numbers, texts and rows as bytes: no program in sight. Plain facts on rows of texts as bytes, and on what is taken from bytes: no program in sigh
-/
import Derived.WalkKit
import Derived.WalkSpells
import Derived.WalkLawsBesides
import Derived.Laws.BytesArg
import Derived.Laws.BitsAllLaws
import Derived.Test.YtdlcimfifkhllaaGreatProg
import Derived.Lib.Builder
import Derived.Deep.Slices
import Derived.Deep.Fields
import Derived.ChangeArms
import Derived.ProofKit
import Derived.BigRegion
import Derived.BigQuiet
import Derived.StillTailTactics
import Derived.Laws.Rows
import Derived.Laws.Tables
import Derived.Laws.CopyOwn
import Derived.StillTail
import Derived.Orders
import Derived.OwnWalk
import Derived.Lib.BufferWrite
namespace Go.Proofs.YtdlcimfifkhllaaGreat.Lm
def val (l:List UInt8):Nat:=l.foldl (fun a b=>256*a+b.toNat) 0
/-! ### Lengths, texts, rows -/
def lenL (n:Nat):List UInt8:=if n≤250 then [UInt8.ofNat n] else [251,UInt8.ofNat (n / 256),UInt8.ofNat (n % 256)]
def body:List (List UInt8)→List UInt8
 | []=>[]
 | t::r=>lenL t.length++t++body r
end Go.Proofs.YtdlcimfifkhllaaGreat.Lm
namespace Go.Proofs.YtdlcimfifkhllaaGreat.Lm
def pre (l:List (List UInt8)) (x:List (List UInt8) × List UInt8 × Nat):List (List UInt8) × List UInt8 × Nat :=
 if x.2.2≠0 then ([],[],x.2.2) else (l++x.1,x.2.1,0)
/-! ### Of a row's bytes no beginning is one -/
end Go.Proofs.YtdlcimfifkhllaaGreat.Lm
namespace Go.Proofs.YtdlcimfifkhllaaGreat
set_option maxRecDepth 100000
end Go.Proofs.YtdlcimfifkhllaaGreat
namespace Go.Proofs.YtdlcimfifkhllaaGreat
set_option maxRecDepth 100000
open Go.RowKit
theorem ba_size (l:List UInt8):(⟨l.toArray⟩:ByteArray).size=l.length:=by simp [ByteArray.size]
theorem ba_get (l:List UInt8) (i:Nat) (h:i < (⟨l.toArray⟩:ByteArray).size):(⟨l.toArray⟩:ByteArray)[i]'h=l[i]'(by rw [← ba_size];exact h):=rfl
theorem bel_trans {w a b:World} (h:Below w.heap.size w a) (k:Below a.heap.size a b):Below w.heap.size w b:=h.trans (k.mono h.size)
def strV (l:List (List UInt8)):List Value:=l.map fun t=>.string ⟨t.toArray⟩
theorem strV_length (l:List (List UInt8)):(strV l).length=l.length:=by simp [strV]
theorem owns_below {B e k n:Nat} {v:Value} {xs:List Value} {w w':World} (h:w.ownsRow B e k v n xs) (hb:Below w.heap.size w w'):w'.ownsRow B e k v n xs:=by
 obtain ⟨h1,h2⟩:=h
 refine ⟨h1,?_⟩
 rcases h2 with h2 | ⟨g,cap,cur,hv,hbg,hg,r⟩
 ·exact .inl h2
 ·have hlt:g < w.heap.size:=by
   rcases Nat.lt_or_ge g w.heap.size with h' | h'
   ·exact h'
   ·simp [Array.getElem?_eq_none h'] at hg
  exact .inr ⟨g,cap,cur,hv,hbg,(hb.block g hlt).trans hg,r⟩
end Go.Proofs.YtdlcimfifkhllaaGreat
namespace Go.Proofs.YtdlcimfifkhllaaGreat
set_option maxRecDepth 100000
open Go.RowKit Go.ChangeShapes Go.WideShapes
set_option linter.unusedVariables false
section
variable {α:Type}
theorem take_next_eq {l m:List α} {k:Nat} (h1:k < l.length) (h2:k < m.length) (h:l.take k=m.take k) (he:l[k]=m[k]):l.take (k+1)=m.take (k+1):=by
 rw [List.take_succ_eq_append_getElem h1,List.take_succ_eq_append_getElem h2,h,he]
theorem ne_by_at {l m:List α} {k:Nat} (h1:k < l.length) (h2:k < m.length) (he:¬ l[k]=m[k]):¬ l=m:=fun h=>by subst h;exact he rfl
def IsRec (sz:Nat) (enc:α→List Value) (w:World) (v:Value) (L:List α):Prop :=
 ∃ a n cap,v=.slice a n cap∧L.length=n∧n≤cap∧cap≤9223372036854775807∧n≤140737488351232 ∧
 (n=0∨∃ b off,a=some ⟨b,off,none⟩∧b < w.heap.size∧∀ i (h:i < L.length) j u,(enc L[i])[j]?=some u→w.cell? ⟨b,off+i*sz+j,none⟩=some u)
theorem IsRec.below {sz:Nat} {enc:α→List Value} {w w':World} {v:Value} {L:List α} (h:IsRec sz enc w v L) (hb:Below w.heap.size w w'):IsRec sz enc w' v L:=by
 obtain ⟨a,n,cap,hv,h1,h2,h3,h4,h6⟩:=h
 refine ⟨a,n,cap,hv,h1,h2,h3,h4,?_⟩
 rcases h6 with h6 | ⟨b,off,ha,hlt,hc⟩
 ·exact .inl h6
 ·refine .inr ⟨b,off,ha,Nat.lt_of_lt_of_le hlt hb.size,fun i hi j u hu=>?_⟩
  rw [hb.cell (p:=⟨b,off+i*sz+j,none⟩) hlt]
  exact hc i hi j u hu
theorem IsRec.some_at {sz:Nat} {enc:α→List Value} {w:World} {v:Value} {L:List α} (h:IsRec sz enc w v L):∃ a cap,v=.slice a L.length cap∧L.length≤cap∧cap≤9223372036854775807∧L.length≤140737488351232∧Hid (∀ k (h:k < L.length),∃ b off,a=some ⟨b,off,none⟩∧b < w.heap.size∧∀ j u,(enc L[k])[j]?=some u→w.cell? ⟨b,off+k*sz+j,none⟩=some u):=by
 obtain ⟨a,n,cap,rfl,rfl,h2,h3,h4,h6⟩:=h
 refine ⟨a,cap,rfl,h2,h3,h4,?_⟩
 intro k hk
 rcases h6 with h6 | ⟨b,off,rfl,hlt,hc⟩
 ·omega
 ·exact ⟨b,off,rfl,hlt,hc k hk⟩
theorem IsRec.nil (sz:Nat) (enc:α→List Value) (w:World):IsRec sz enc w (.slice none 0 0) []:=⟨none,0,0,rfl,rfl,by omega,by omega,by omega,.inl rfl⟩
theorem IsRec.take {sz:Nat} {enc:α→List Value} {w:World} {a:Option Addr} {cap:Nat} {L:List α} (h:IsRec sz enc w (.slice a L.length cap) L) (k:Nat) (hk:k≤L.length):IsRec sz enc w (.slice a k cap) (L.take k):=by
 obtain ⟨a',n,c,hv,h1,h2,h3,h4,h6⟩:=h
 obtain ⟨rfl,rfl,rfl⟩:a'=a∧n=L.length∧c=cap:=by simpa [eq_comm] using hv
 refine ⟨_,_,_,rfl,by simp;omega,by omega,h3,by omega,?_⟩
 rcases h6 with h6 | ⟨b,off,ha,hlt,hc⟩
 ·exact .inl (by omega)
 ·refine .inr ⟨b,off,ha,hlt,fun i hi j u hu=>?_⟩
  simp only [List.length_take] at hi
  rw [List.getElem_take] at hu
  exact hc i (by omega) j u hu
def recV (enc:α→List Value) (L:List α):List Value:=L.flatMap enc
theorem recV_snoc (enc:α→List Value) (L:List α) (x:α):recV enc (L++[x])=recV enc L++enc x:=by simp [recV]
theorem recV_append (enc:α→List Value) (L M:List α):recV enc (L++M)=recV enc L++recV enc M:=by simp [recV]
theorem recV_length {sz:Nat} {enc:α→List Value} (hz:∀ x,(enc x).length=sz):∀ L,(recV enc L).length=L.length*sz
 | []=>by simp [recV]
 | x::L=>by
   have:=recV_length hz L
   unfold recV at this ⊢
   rw [List.flatMap_cons,List.length_append,hz,this,List.length_cons,Nat.succ_mul]
   omega
theorem recV_get {sz:Nat} {enc:α→List Value} (hz:∀ x,(enc x).length=sz):∀ (L:List α) (i:Nat) (h:i < L.length) (j:Nat) (hj:j < sz),(recV enc L)[i*sz+j]?=(enc L[i])[j]?
 | [],i,h,j,hj=>by simp at h
 | x::L,0,h,j,hj=>by
   unfold recV
   rw [List.flatMap_cons,Nat.zero_mul,Nat.zero_add,List.getElem?_append_left (by rw [hz];exact hj)]
   rfl
 | x::L,i+1,h,j,hj=>by
   have:=recV_get hz L i (by simp at h;omega) j hj
   unfold recV at this ⊢
   rw [List.flatMap_cons,List.getElem?_append_right (by rw [hz,Nat.succ_mul];omega),hz,show (i+1)*sz+j - sz=i*sz+j by rw [Nat.succ_mul];omega,this]
   simp
theorem recV_one {enc:α→List Value} (h1:∀ x,∀ u∈enc x,u.oneCell'=true) (L:List α):∀ u∈recV enc L,u.oneCell'=true:=by
 intro u hu
 obtain ⟨x,_,hx⟩:=List.mem_flatMap.1 hu
 exact h1 x u hx
theorem IsRec.own {sz:Nat} {enc:α→List Value} (hz:∀ x,(enc x).length=sz) (hs:0 < sz) {w:World} {B e:Nat} {v:Value} {n:Nat} {L:List α} (h:w.ownsRow B e sz v n (recV enc L)) (hn:n≤140737488351232):IsRec sz enc w v L:=by
 obtain ⟨h1,h2⟩:=h
 rw [recV_length hz] at h1
 have hln:L.length=n:=Nat.eq_of_mul_eq_mul_right hs h1
 rcases h2 with ⟨rfl,rfl⟩ | ⟨g,cap,cur,rfl,hbg,hg,hnc,hcm,hcs,htake⟩
 ·obtain rfl:L=[]:=List.length_eq_zero_iff.1 hln
  exact IsRec.nil sz enc w
 ·refine ⟨_,_,_,rfl,hln,hnc,by unfold maxLen at hcm;omega,hn,.inr ⟨g,0,rfl,(Array.getElem?_eq_some_iff.1 hg).1,?_⟩⟩
  intro i hi j u hu
  have hj:j < sz:=by rw [← hz L[i]];exact (List.getElem?_eq_some_iff.1 hu).1
  rw [Lib.cell_of_heap hg,Nat.zero_add]
  have hlt:i*sz+j < n*sz:=by
   have:(i+1)*sz≤n*sz:=Nat.mul_le_mul_right _ (by omega)
   rw [Nat.succ_mul] at this
   omega
  have e:cur.toList[i*sz+j]?=(recV enc L)[i*sz+j]?:=by rw [← htake,List.getElem?_take_of_lt hlt]
  rw [← Array.getElem?_toList,e,recV_get hz L i hi j hj]
  exact hu
theorem list_of (R:Nat→α→Prop):∀ n,(∀ i,i < n→∃ x,R i x)→∃ L:List α,L.length=n∧∀ i (h:i < L.length),R i L[i]
 | 0,_=>⟨[],rfl,fun i h=>by simp at h⟩
 | n+1,h=>by
   obtain ⟨L,hl,hL⟩:=list_of R n (fun i hi=>h i (by omega))
   obtain ⟨x,hx⟩:=h n (by omega)
   refine ⟨L++[x],by simp [hl],fun i hi=>?_⟩
   by_cases hin:i < L.length
   ·rw [List.getElem_append_left hin];exact hL i hin
   ·simp at hi
    obtain rfl:i=n:=by omega
    rw [List.getElem_append_right (by omega)]
    simpa using hx
theorem rec_cells {sz:Nat} {rec:α→List Value} (good:α→Prop) {H:Type} {enc:TypeId × Value→H} {P:Program} {W:World} {t e:TypeId} {m:Nat} {c:Value} {d:DataW H} {p:List MemPlace} (by_:Nat)
 (ht:P.underlying t=some (.slice e)) (hC:P.cellsOf e=sz) (hs:0 < sz) (hB:P.bytesOf e=by_) (hb8:8≤by_)
 (hel:∀ n cs' d' p',cs'.length=sz→DataW.trod enc P W 0 (fun _=>true) true n e cs'=some (d',p')→(DataW.weights P e d').all (·≤ reachBytes)=true→∃ x,cs'=rec x∧good x)
 (hf:DataW.trod enc P W 0 (fun _=>true) true m t [c]=some (d,p)) (hw:(DataW.weights P t d).all (·≤ reachBytes)=true):∃ L:List α,IsRec sz rec W c L∧(∀ x∈L,good x)∧L.length*by_≤reachBytes:=by
 rcases Go.Deep.open_slice ht hf with ⟨hcs,_⟩ | ⟨a,len,cap,mm,n,D,Pl,hcs,_,hl,hm,hmm,hx,hall⟩
 ·simp at hcs
  subst hcs
  exact ⟨[],IsRec.nil sz rec W,by simp,by simp⟩
 ·simp at hcs
  subst hcs
  simp only [if_true] at hmm
  have hd:=congrArg Prod.fst hx
  simp only at hd
  subst hd
  simp only [DataW.weights,ht,List.all_cons,Bool.and_eq_true,decide_eq_true_eq,List.all_append] at hw
  obtain ⟨hw1,hw2,hw3⟩:=hw
  rw [hB] at hw1
  simp only [List.length_map,List.length_range] at hw1
  have hmem:∀ (ds:List (DataW H)),(DataW.weightsAll P e ds).all (·≤ reachBytes)=true→∀ d∈ds,(DataW.weights P e d).all (·≤ reachBytes)=true:=by
   intro ds
   induction ds with
   | nil=>intro _ d hd;cases hd
   | cons a r ih =>
     intro h d hd
     rw [DataW.weightsAll,List.all_append,Bool.and_eq_true] at h
     rcases List.mem_cons.1 hd with rfl | hd
     ·exact h.1
     ·exact ih h.2 d hd
  have hlen:len*by_≤reachBytes:=Nat.le_trans (Nat.mul_le_mul_right _ (by omega)) hw1
  obtain ⟨L,hLl,hL⟩:=list_of (fun i x=>W.cells? 0 (a.add (i*P.cellsOf e)) (P.cellsOf e)=some (rec x)∧good x) len (fun i hi=>by
   obtain ⟨cs',h1,h2⟩:=hall i (by omega)
   obtain ⟨_,hcl,_⟩:=World.cells?_some h1
   have g:=hmem _ hw2 (D i) (List.mem_map.2 ⟨i,List.mem_range.2 hi,rfl⟩)
   obtain ⟨x,hx1,hx2⟩:=hel n cs' _ _ (by rw [hcl,hC]) h2 g
   exact ⟨x,by rw [h1,hx1],hx2⟩)
  refine ⟨L,?_,?_,by rw [hLl];exact hlen⟩
  ·refine ⟨_,_,_,rfl,hLl,hl,by unfold maxLen at hm;omega,?_,?_⟩
   ·have h8:len*8≤len*by_:=Nat.mul_le_mul_left _ hb8
    unfold reachBytes at hlen
    omega
   ·by_cases h0:len=0
    ·exact .inl h0
    ·right
     have h00:=(hL 0 (by omega)).1
     obtain ⟨b,off,spot⟩:=a
     have hcell:∀ i (h:i < L.length) j u,(rec L[i])[j]?=some u→W.cell? ((⟨b,off,spot⟩:Addr).add (i*sz+j))=some u:=by
      intro i hi j u hu
      have h1:=(hL i hi).1
      obtain ⟨_,hcl,hcc⟩:=World.cells?_some h1
      have hj:j < P.cellsOf e:=by rw [← hcl];exact (List.getElem?_eq_some_iff.1 hu).1
      have:=hcc j hj
      rw [Go.Deep.add_add,hC] at this
      rw [this,hu]
     have hsz:0 < (rec L[0]).length:=by
      obtain ⟨_,hcl,_⟩:=World.cells?_some h00
      omega
     have hc0:=hcell 0 (by omega) 0 _ (List.getElem?_eq_getElem hsz)
     have hspot:spot=none:=by simpa [Addr.add] using World.cell?_spot hc0
     subst hspot
     have hlt:b < W.heap.size:=by
      rcases Nat.lt_or_ge b W.heap.size with h' | h'
      ·exact h'
      ·simp [World.cell?,Addr.add,Array.getElem?_eq_none h'] at hc0
     refine ⟨b,off,rfl,hlt,fun i hi j u hu=>?_⟩
     have:=hcell i hi j u hu
     rw [show (⟨b,off,none⟩:Addr).add (i*sz+j)=⟨b,off+i*sz+j,none⟩ by simp [Addr.add,Nat.add_assoc]] at this
     exact this
  ·intro x hx
   obtain ⟨i,hi,rfl⟩:=List.getElem_of_mem hx
   exact (hL i hi).2
end
end Go.Proofs.YtdlcimfifkhllaaGreat
namespace Go.Proofs.YtdlcimfifkhllaaGreat
set_option maxRecDepth 100000
set_option linter.unusedVariables false
abbrev Ev:=Int × Int × List UInt8 × List UInt8
abbrev keyedE (k:Int):Prop:=k=2∨k=3
abbrev mayE (x:Ev):Prop:=(1≤x.1∧x.1≤5∧1≤x.2.1∧x.2.1≤32)∧(if keyedE x.1 then (1≤x.2.2.1.length∧x.2.2.1.length≤32∧x.2.2.2.length≤32∧(x.1=2∨1≤x.2.2.2.length)) else (x.2.2.1=[]∧x.2.2.2=[]))
end Go.Proofs.YtdlcimfifkhllaaGreat
namespace Go.Proofs.YtdlcimfifkhllaaGreat
set_option maxRecDepth 100000
open Go.RowKit Go.ChangeShapes Go.WideShapes
set_option linter.unusedVariables false
def evV (x:Ev):List Value:=[.int .i64 x.1,.int .i64 x.2.1,.string ⟨x.2.2.1.toArray⟩,.string ⟨x.2.2.2.toArray⟩]
theorem evV_len (x:Ev):(evV x).length=4:=rfl
def goodE (x:Ev):Prop:=(-9223372036854775808≤x.1∧x.1≤9223372036854775807)∧(-9223372036854775808≤x.2.1∧x.2.1≤9223372036854775807)∧x.2.2.1.length≤140737488351232∧x.2.2.2.length≤140737488351232
abbrev IsEvs (w:World) (v:Value) (L:List Ev):Prop:=IsRec 4 evV w v L
theorem IsEvs.at {w:World} {b off:Nat} {L:List Ev} {k:Nat} (hk:k < L.length) (h:∀ j u,(evV L[k])[j]?=some u→w.cell? ⟨b,off+k*4+j,none⟩=some u) :
 w.cell? ⟨b,off+k*4,none⟩=some (.int .i64 L[k].1)∧w.cell? ⟨b,off+k*4+1,none⟩=some (.int .i64 L[k].2.1)∧w.cell? ⟨b,off+k*4+2,none⟩=some (.string ⟨L[k].2.2.1.toArray⟩)∧w.cell? ⟨b,off+k*4+3,none⟩=some (.string ⟨L[k].2.2.2.toArray⟩) :=
 ⟨h 0 _ rfl,h 1 _ rfl,h 2 _ rfl,h 3 _ rfl⟩
theorem mayE_range {k t:Int} {a b:List UInt8} (h:mayE (k,t,a,b)):1≤k∧k≤5∧1≤t∧t≤32:=h.1
theorem mayE_key {k t:Int} {a b:List UInt8} (h:k=2∨k=3):mayE (k,t,a,b)↔(1≤k∧k≤5∧1≤t∧t≤32)∧(1≤a.length∧a.length≤32∧b.length≤32∧(k=2∨1≤b.length)):=by
 unfold mayE
 simp only
 rw [if_pos (show keyedE k from h)]
theorem mayE_unkey {k t:Int} {a b:List UInt8} (h:¬ (k=2∨k=3)):mayE (k,t,a,b)↔(1≤k∧k≤5∧1≤t∧t≤32)∧(a=[]∧b=[]):=by
 unfold mayE
 simp only
 rw [if_neg (show ¬ keyedE k from h)]
theorem box_cell {w w1:World} {c:Array Value} {t:TypeId} (b:Below (w.alloc (.cells c t)).heap.size (w.alloc (.cells c t)) w1) (j:Nat) (u:Value) (h:c[j]?=some u):w1.cell? ⟨w.heap.size,j,none⟩=some u :=
 (b.cell (p:=⟨w.heap.size,j,none⟩) (by simp)).trans (by rw [World.cell?_alloc_new];exact h)
theorem i64_wf {n:Int} (h:(Lit.int .i64 n).wf=true):-9223372036854775808≤n∧n≤9223372036854775807:=by
 simp [Lit.wf,IntKind.min,IntKind.max,IntKind.signed,IntKind.bits] at h
 omega
section
variable {H:Type} {enc:TypeId × Value→H} {P:Program} {W:World}
theorem ev_elem {e:TypeId} {f0 f1 f2 f3:Field} (hs:P.underlying e=some (.struct #[f0,f1,f2,f3])) (hone:Go.Deep.oneCellFields P #[f0,f1,f2,f3]=true)
 (u0:P.underlying f0.type=some (.int .i64)) (u1:P.underlying f1.type=some (.int .i64)) (u2:P.underlying f2.type=some .string) (u3:P.underlying f3.type=some .string)
 (n:Nat) (cs':List Value) (d':DataW H) (p':List MemPlace) (hl:cs'.length=4) (h:DataW.trod enc P W 0 (fun _=>true) true n e cs'=some (d',p')) (hw:(DataW.weights P e d').all (·≤ reachBytes)=true):∃ x,cs'=evV x∧goodE x:=by
 obtain ⟨xs,k,_,hx,hcl,hlen,hel⟩:=DataW.trod_struct hs h
 have hlen':xs.length=4:=hlen
 match xs,hlen',cs',hl with
 | [y0,y1,y2,y3],_,[c0,c1,c2,c3],_ =>
   obtain ⟨o0,k0⟩:=Go.Deep.hone_of hone 0 f0 rfl
   obtain ⟨o1,k1⟩:=Go.Deep.hone_of hone 1 f1 rfl
   obtain ⟨o2,k2⟩:=Go.Deep.hone_of hone 2 f2 rfl
   obtain ⟨o3,k3⟩:=Go.Deep.hone_of hone 3 f3 rfl
   have g0:=hel 0 f0 rfl
   have g1:=hel 1 f1 rfl
   have g2:=hel 2 f2 rfl
   have g3:=hel 3 f3 rfl
   simp [o0,o1,o2,o3,k0,k1,k2,k3] at g0 g1 g2 g3
   obtain ⟨n0,e0,rfl,w0⟩:=DataW.trod_int u0 g0
   obtain ⟨n1,e1,rfl,w1⟩:=DataW.trod_int u1 g1
   obtain ⟨s2,e2,rfl,_⟩:=DataW.trod_string u2 g2
   obtain ⟨s3,e3,rfl,_⟩:=DataW.trod_string u3 g3
   have hd:=congrArg Prod.fst hx
   simp at hd
   subst hd
   simp at e0 e1 e2 e3
   subst e0 e1 e2 e3
   simp only [DataW.weights,DataW.weightsEach,hs,List.map_cons,List.map_nil,List.append_nil,List.nil_append,List.all_append,List.all_cons,List.all_nil,Bool.and_true,Bool.and_eq_true] at hw
   refine ⟨(n0,n1,s2.data.toList,s3.data.toList),rfl,i64_wf w0,i64_wf w1,?_,?_⟩
   ·exact of_decide_eq_true hw.1
   ·exact of_decide_eq_true hw.2
end
end Go.Proofs.YtdlcimfifkhllaaGreat
namespace Go.Proofs.YtdlcimfifkhllaaGreat
set_option maxRecDepth 100000
open Go.ChangeShapes Go.WideShapes Go.ChangeAt Go.RowKit
set_option linter.unusedVariables false
theorem ev_cells {H:Type} {enc:TypeId × Value→H} {W:World} {m:Nat} {c:Value} {d:DataW H} {p:List MemPlace}
 (hf:DataW.trod enc Tryz.prog W 0 (fun _=>true) true m 22 [c]=some (d,p)) (hw:(DataW.weights Tryz.prog 22 d).all (·≤ reachBytes)=true):∃ L:List Ev,IsEvs W c L∧(∀ x∈L,goodE x)∧L.length*48≤reachBytes :=
 rec_cells goodE 48 Tryz.underlying22 (by kernel_rfl) (by omega) (by kernel_rfl) (by omega)
  (fun n cs' d' p' hl h hw'=>ev_elem Tryz.underlying49 (by kernel_rfl) (by kernel_rfl) (by kernel_rfl) (by kernel_rfl) (by kernel_rfl) n cs' d' p' hl h hw') hf hw
theorem ev_arg {H:Type} {enc:TypeId × Value→H} {W:World} {v:Value} {d:DataW H} {p:List MemPlace} (hv:∃ a n c,v=.slice a n c)
 (h:DataW.Trod enc Tryz.prog W 0 (fun _=>true) true 22 v d p) (hw:(DataW.weights Tryz.prog 22 d).all (·≤ reachBytes)=true):∃ L:List Ev,IsEvs W v L∧(∀ x∈L,goodE x)∧L.length*48≤reachBytes:=by
 obtain ⟨a,n,c,rfl⟩:=hv
 obtain ⟨fuel,hf⟩:=h
 exact ev_cells (by simpa [Value.cells] using hf) hw
end Go.Proofs.YtdlcimfifkhllaaGreat
namespace Go.Proofs.YtdlcimfifkhllaaGreat
set_option maxRecDepth 100000
set_option linter.unusedVariables false
def fi (p:Nat→Bool) (n:Nat):Option Nat:=(List.range n).find? p
def la (p:Nat→Bool):Nat→Option Nat
 | 0=>none
 | n+1=>if p n=true then some n else la p n
theorem fi_zero (p:Nat→Bool):fi p 0=none:=rfl
theorem fi_succ (p:Nat→Bool) (n:Nat):fi p (n+1)=(fi p n).or (if p n=true then some n else none):=by
 unfold fi
 rw [List.range_succ,List.find?_append]
 congr 1
 by_cases h:p n=true
 ·rw [if_pos h,List.find?_cons_of_pos h]
 ·rw [if_neg h,List.find?_cons_of_neg h];rfl
theorem fi_none (p:Nat→Bool) (n:Nat):fi p n=none↔∀ i,i < n→p i=false:=by
 unfold fi
 rw [List.find?_eq_none]
 constructor
 ·intro h i hi
  have:=h i (List.mem_range.2 hi)
  simpa using this
 ·intro h i hi
  have:=h i (List.mem_range.1 hi)
  simp [this]
theorem fi_some (p:Nat→Bool):∀ (n i:Nat),fi p n=some i↔i < n∧p i=true∧∀ j,j < i→p j=false
 | 0,i=>by rw [fi_zero];constructor;intro h;cases h;intro h;omega
 | n+1,i=>by
   rw [fi_succ]
   cases hf:fi p n with
   | none =>
     have hn:=(fi_none p n).1 hf
     rw [Option.none_or]
     by_cases h:p n=true
     ·rw [if_pos h]
      constructor
      ·intro e;cases e;exact ⟨by omega,h,hn⟩
      ·intro ⟨h1,h2,h3⟩
       rcases Nat.lt_or_ge i n with hi | hi
       ·have:=hn i hi;rw [h2] at this;cases this
       ·rw [show i=n by omega]
     ·rw [if_neg h]
      constructor
      ·intro e;cases e
      ·intro ⟨h1,h2,h3⟩
       rcases Nat.lt_or_ge i n with hi | hi
       ·have:=hn i hi;rw [h2] at this;cases this
       ·rw [show i=n by omega] at h2;exact absurd h2 h
   | some k =>
     have hk:=(fi_some p n k).1 hf
     rw [Option.some_or]
     constructor
     ·intro e;cases e;exact ⟨by omega,hk.2.1,hk.2.2⟩
     ·intro ⟨h1,h2,h3⟩
      rcases Nat.lt_trichotomy i k with hi | hi | hi
      ·have:=hk.2.2 i hi;rw [h2] at this;cases this
      ·rw [hi]
      ·have:=h3 k hi;rw [hk.2.1] at this;cases this
theorem fi_congr {p q:Nat→Bool} {n:Nat} (h:∀ i,i < n→p i=q i):fi p n=fi q n:=by
 cases hf:fi q n with
 | none=>rw [fi_none] at hf ⊢;intro i hi;rw [h i hi];exact hf i hi
 | some k =>
   rw [fi_some] at hf ⊢
   exact ⟨hf.1,by rw [h k hf.1];exact hf.2.1,fun j hj=>by rw [h j (by omega)];exact hf.2.2 j hj⟩
theorem la_some (p:Nat→Bool):∀ (n i:Nat),la p n=some i↔i < n∧p i=true∧∀ j,i < j→j < n→p j=false
 | 0,i=>by rw [la];constructor;intro h;cases h;intro h;omega
 | n+1,i=>by
   rw [la]
   by_cases h:p n=true
   ·rw [if_pos h]
    constructor
    ·intro e;cases e;exact ⟨by omega,h,fun j h1 h2=>by omega⟩
    ·intro ⟨h1,h2,h3⟩
     rcases Nat.lt_or_ge i n with hi | hi
     ·have:=h3 n hi (by omega);rw [h] at this;cases this
     ·rw [show i=n by omega]
   ·rw [if_neg h,la_some p n i]
    constructor
    ·intro ⟨h1,h2,h3⟩
     refine ⟨by omega,h2,fun j hj hn=>?_⟩
     rcases Nat.lt_or_ge j n with hjn | hjn
     ·exact h3 j hj hjn
     ·rw [show j=n by omega];simpa using h
    ·intro ⟨h1,h2,h3⟩
     rcases Nat.lt_or_ge i n with hi | hi
     ·exact ⟨hi,h2,fun j hj hn=>h3 j hj (by omega)⟩
     ·rw [show i=n by omega] at h2;exact absurd h2 h
theorem la_none (p:Nat→Bool):∀ (n:Nat),la p n=none↔∀ i,i < n→p i=false
 | 0=>by rw [la];exact ⟨fun _ i hi=>by omega,fun _=>rfl⟩
 | n+1=>by
   rw [la]
   by_cases h:p n=true
   ·rw [if_pos h]
    constructor
    ·intro e;cases e
    ·intro hh;have:=hh n (by omega);rw [h] at this;cases this
   ·rw [if_neg h,la_none p n]
    constructor
    ·intro hh i hi
     rcases Nat.lt_or_ge i n with hin | hin
     ·exact hh i hin
     ·rw [show i=n by omega];simpa using h
    ·intro hh i hi;exact hh i (by omega)
def oI:Option Nat→Int
 | none=>-1
 | some i=>(i:Int)
def ev (h:List Ev) (i:Nat):Ev:=h.getD i (0,0,[],[])
theorem ev_get (h:List Ev) (i:Nat) (hi:i < h.length):ev h i=h[i]:=by unfold ev;rw [List.getD_eq_getElem?_getD,List.getElem?_eq_getElem hi];rfl
theorem ev_take (h:List Ev) (n i:Nat) (hi:i < n) (hn:n≤h.length):ev (h.take n) i=ev h i:=by
 rw [ev_get _ _ (by rw [List.length_take];omega),ev_get _ _ (by omega),List.getElem_take]
def isEnd (h:List Ev) (t:Int) (i:Nat):Bool:=decide ((ev h i).2.1=t∧((ev h i).1=4∨(ev h i).1=5))
def endL (h:List Ev) (t:Int) (n:Nat):Option Nat:=fi (isEnd h t) n
def ofTxn (h:List Ev) (t:Int) (i:Nat):Bool:=decide ((ev h i).2.1=t)
def fstL (h:List Ev) (t:Int) (n:Nat):Option Nat:=fi (ofTxn h t) n
def isWr (h:List Ev) (key val:List UInt8) (i:Nat):Bool:=decide ((ev h i).1=3∧(ev h i).2.2.1=key∧(ev h i).2.2.2=val)
def writerL (h:List Ev) (key val:List UInt8):Option Nat:=fi (isWr h key val) h.length
def isWrT (h:List Ev) (t:Int) (key:List UInt8) (i:Nat):Bool:=decide ((ev h i).1=3∧(ev h i).2.1=t∧(ev h i).2.2.1=key)
def lastN (h:List Ev) (t:Int) (key:List UInt8) (n:Nat):Option Nat:=la (isWrT h t key) n
def lastL (h:List Ev) (t:Int) (key:List UInt8) (before:Int):Option Nat:=lastN h t key (min h.length before.toNat)
def sameVal (h:List Ev) (v:List UInt8) (i:Nat):Bool:=decide ((ev h i).1=3∧(ev h i).2.2.2=v)
def formStep (h:List Ev) (i:Nat):Nat :=
 if ¬ mayE (ev h i) then 1
 else if (ev h i).1=1 then (if fstL h (ev h i).2.1 i=none then 0 else 8)
 else if fstL h (ev h i).2.1 i=none then 7
 else if endL h (ev h i).2.1 i≠none then 9
 else if (ev h i).1=3∧fi (sameVal h (ev h i).2.2.2) i≠none then 8
 else if (ev h i).1=2∧(ev h i).2.2.2≠[]∧writerL h (ev h i).2.2.1 (ev h i).2.2.2=none then 7
 else 0
def wrongAt (h:List Ev) (i:Nat):Bool:=decide (formStep h i≠0)
def openAt (h:List Ev) (i:Nat):Bool:=decide (endL h (ev h i).2.1 h.length=none)
def formedL (h:List Ev):Nat × Nat :=
 if 256 < h.length then (0,4) else
 match fi (wrongAt h) h.length with
 | some i=>(i,formStep h i)
 | none=>if fi (openAt h) h.length=none then (h.length,0) else (h.length,9)
def WF (h:List Ev):Prop:=h.length≤256∧(∀ i,i < h.length→formStep h i=0)∧∀ i,i < h.length→endL h (ev h i).2.1 h.length≠none
theorem formed_ok (h:List Ev):(formedL h).2=0↔WF h:=by
 unfold formedL WF
 by_cases h1:256 < h.length
 ·rw [if_pos h1]
  constructor
  ·intro e;cases e
  ·intro e;omega
 ·rw [if_neg h1]
  cases hf:fi (wrongAt h) h.length with
  | some i =>
    have hi:=(fi_some _ _ _).1 hf
    have hw:=of_decide_eq_true hi.2.1
    constructor
    ·intro e;exact absurd e hw
    ·intro e;exact absurd (e.2.1 i hi.1) hw
  | none =>
    have hn:=(fi_none _ _).1 hf
    have hz:∀ i,i < h.length→formStep h i=0:=fun i hi=>by
     have:=of_decide_eq_false (hn i hi);omega
    simp only
    by_cases ho:fi (openAt h) h.length=none
    ·rw [if_pos ho]
     have hoo:=(fi_none _ _).1 ho
     constructor
     ·intro _
      exact ⟨by omega,hz,fun i hi=>of_decide_eq_false (hoo i hi)⟩
     ·intro _;rfl
    ·rw [if_neg ho]
     constructor
     ·intro e;cases e
     ·intro e
      exfalso
      apply ho
      rw [fi_none]
      intro i hi
      exact decide_eq_false (e.2.2 i hi)
theorem formStep_zero (h:List Ev) (i:Nat):formStep h i=0↔mayE (ev h i)∧((ev h i).1=1→fstL h (ev h i).2.1 i=none)∧((ev h i).1≠1→fstL h (ev h i).2.1 i≠none∧endL h (ev h i).2.1 i=none∧((ev h i).1=3→fi (sameVal h (ev h i).2.2.2) i=none)∧((ev h i).1=2→(ev h i).2.2.2≠[]→writerL h (ev h i).2.2.1 (ev h i).2.2.2≠none)):=by
 unfold formStep
 by_cases hm:mayE (ev h i)
 ·rw [if_neg (fun hh=>hh hm)]
  by_cases h1:(ev h i).1=1
  ·rw [if_pos h1]
   by_cases hf:fstL h (ev h i).2.1 i=none
   ·rw [if_pos hf];exact ⟨fun _=>⟨hm,fun _=>hf,fun hh=>absurd h1 hh⟩,fun _=>rfl⟩
   ·rw [if_neg hf];exact ⟨fun e=>(by cases e),fun e=>absurd (e.2.1 h1) hf⟩
  ·rw [if_neg h1]
   by_cases hf:fstL h (ev h i).2.1 i=none
   ·rw [if_pos hf];exact ⟨fun e=>(by cases e),fun e=>absurd hf (e.2.2 h1).1⟩
   ·rw [if_neg hf]
    by_cases he:endL h (ev h i).2.1 i=none
    ·rw [if_neg (fun hh=>hh he)]
     by_cases h3:(ev h i).1=3∧fi (sameVal h (ev h i).2.2.2) i≠none
     ·rw [if_pos h3];exact ⟨fun e=>(by cases e),fun e=>absurd ((e.2.2 h1).2.2.1 h3.1) h3.2⟩
     ·rw [if_neg h3]
      by_cases h2:(ev h i).1=2∧(ev h i).2.2.2≠[]∧writerL h (ev h i).2.2.1 (ev h i).2.2.2=none
      ·rw [if_pos h2];exact ⟨fun e=>(by cases e),fun e=>absurd h2.2.2 ((e.2.2 h1).2.2.2 h2.1 h2.2.1)⟩
      ·rw [if_neg h2]
       refine ⟨fun _=>⟨hm,fun hh=>absurd hh h1,fun _=>⟨hf,he,fun h3'=>?_,fun h2' hv hw=>h2 ⟨h2',hv,hw⟩⟩⟩,fun _=>rfl⟩
       exact Classical.byContradiction fun hh=>h3 ⟨h3',hh⟩
    ·rw [if_pos he];exact ⟨fun e=>(by cases e),fun e=>absurd (e.2.2 h1).2.1 he⟩
 ·rw [if_pos hm];exact ⟨fun e=>(by cases e),fun e=>absurd e.1 hm⟩
end Go.Proofs.YtdlcimfifkhllaaGreat
namespace Go.Proofs.YtdlcimfifkhllaaGreat
set_option maxRecDepth 100000
set_option linter.unusedVariables false
theorem fstL_none (h:List Ev) (t:Int) (n:Nat):fstL h t n=none↔∀ j,j < n→(ev h j).2.1≠t:=by
 unfold fstL;rw [fi_none]
 constructor
 ·intro hh j hj;exact of_decide_eq_false (hh j hj)
 ·intro hh j hj;exact decide_eq_false (hh j hj)
theorem fstL_some (h:List Ev) (t:Int) (n i:Nat):fstL h t n=some i↔i < n∧(ev h i).2.1=t∧∀ j,j < i→(ev h j).2.1≠t:=by
 unfold fstL;rw [fi_some]
 constructor
 ·intro ⟨a,b,c⟩;exact ⟨a,of_decide_eq_true b,fun j hj=>of_decide_eq_false (c j hj)⟩
 ·intro ⟨a,b,c⟩;exact ⟨a,decide_eq_true b,fun j hj=>decide_eq_false (c j hj)⟩
abbrev endB (x:Ev) (t:Int):Prop:=x.2.1=t∧(x.1=4∨x.1=5)
theorem endL_none (h:List Ev) (t:Int) (n:Nat):endL h t n=none↔∀ j,j < n→¬ endB (ev h j) t:=by
 unfold endL;rw [fi_none]
 constructor
 ·intro hh j hj;exact of_decide_eq_false (hh j hj)
 ·intro hh j hj;exact decide_eq_false (hh j hj)
theorem endL_some (h:List Ev) (t:Int) (n i:Nat):endL h t n=some i↔i < n∧endB (ev h i) t∧∀ j,j < i→¬ endB (ev h j) t:=by
 unfold endL;rw [fi_some]
 constructor
 ·intro ⟨a,b,c⟩;exact ⟨a,of_decide_eq_true b,fun j hj=>of_decide_eq_false (c j hj)⟩
 ·intro ⟨a,b,c⟩;exact ⟨a,decide_eq_true b,fun j hj=>decide_eq_false (c j hj)⟩
theorem writerL_some (h:List Ev) (key val:List UInt8) (i:Nat):writerL h key val=some i↔i < h.length∧((ev h i).1=3∧(ev h i).2.2.1=key∧(ev h i).2.2.2=val)∧∀ j,j < i→¬ ((ev h j).1=3∧(ev h j).2.2.1=key∧(ev h j).2.2.2=val):=by
 unfold writerL;rw [fi_some]
 constructor
 ·intro ⟨a,b,c⟩;exact ⟨a,of_decide_eq_true b,fun j hj=>of_decide_eq_false (c j hj)⟩
 ·intro ⟨a,b,c⟩;exact ⟨a,decide_eq_true b,fun j hj=>decide_eq_false (c j hj)⟩
theorem lastN_some (h:List Ev) (t:Int) (key:List UInt8) (n i:Nat):lastN h t key n=some i↔i < n∧((ev h i).1=3∧(ev h i).2.1=t∧(ev h i).2.2.1=key)∧∀ j,i < j→j < n→¬ ((ev h j).1=3∧(ev h j).2.1=t∧(ev h j).2.2.1=key):=by
 unfold lastN;rw [la_some]
 constructor
 ·intro ⟨a,b,c⟩;exact ⟨a,of_decide_eq_true b,fun j hj hn=>of_decide_eq_false (c j hj hn)⟩
 ·intro ⟨a,b,c⟩;exact ⟨a,decide_eq_true b,fun j hj hn=>decide_eq_false (c j hj hn)⟩
theorem lastN_none (h:List Ev) (t:Int) (key:List UInt8) (n:Nat):lastN h t key n=none↔∀ j,j < n→¬ ((ev h j).1=3∧(ev h j).2.1=t∧(ev h j).2.2.1=key):=by
 unfold lastN;rw [la_none]
 constructor
 ·intro hh j hj;exact of_decide_eq_false (hh j hj)
 ·intro hh j hj;exact decide_eq_false (hh j hj)
theorem sameVal_none (h:List Ev) (v:List UInt8) (n:Nat):fi (sameVal h v) n=none↔∀ j,j < n→¬ ((ev h j).1=3∧(ev h j).2.2.2=v):=by
 rw [fi_none]
 constructor
 ·intro hh j hj;exact of_decide_eq_false (hh j hj)
 ·intro hh j hj;exact decide_eq_false (hh j hj)
def findL (h:List Ev) (t:Int):Option (Int × Nat × Nat × Bool) :=
 match fstL h t h.length with
 | none=>none
 | some f=>match endL h t h.length with
   | none=>some (t,f,h.length,false)
   | some e=>some (t,f,e,decide ((ev h e).1=4))
def livesL (h:List Ev):List (Int × Nat × Nat × Bool):=(List.range h.length).filterMap fun i=>if fstL h (ev h i).2.1 i=none then findL h (ev h i).2.1 else none
def verOf (h:List Ev) (key:List UInt8) (i:Nat):Option Nat:=if (ev h i).1=4∧endL h (ev h i).2.1 h.length=some i then lastN h (ev h i).2.1 key i else none
def versL (h:List Ev) (key:List UInt8):List Nat:=(List.range h.length).filterMap (verOf h key)
section
variable {h:List Ev}
theorem wf_may (hw:WF h) {i:Nat} (hi:i < h.length):mayE (ev h i):=((formStep_zero h i).1 (hw.2.1 i hi)).1
theorem wf_first (hw:WF h) {i j:Nat} (hi:i < h.length) (h1:(ev h i).1=1) (hj:j < i):(ev h j).2.1≠(ev h i).2.1:=(fstL_none _ _ _).1 (((formStep_zero h i).1 (hw.2.1 i hi)).2.1 h1) j hj
theorem wf_had (hw:WF h) {i:Nat} (hi:i < h.length) (h1:(ev h i).1≠1):∃ j,j < i∧(ev h j).2.1=(ev h i).2.1:=by
 have:=(((formStep_zero h i).1 (hw.2.1 i hi)).2.2 h1).1
 cases hf:fstL h (ev h i).2.1 i with
 | none=>exact absurd hf this
 | some j=>have:=(fstL_some _ _ _ _).1 hf;exact ⟨j,this.1,this.2.1⟩
theorem wf_open (hw:WF h) {i j:Nat} (hi:i < h.length) (hj:j < i):¬ endB (ev h j) (ev h i).2.1:=by
 by_cases h1:(ev h i).1=1
 ·intro he;exact wf_first hw hi h1 hj he.1
 ·exact (endL_none _ _ _).1 (((formStep_zero h i).1 (hw.2.1 i hi)).2.2 h1).2.1 j hj
theorem wf_vals (hw:WF h) {i j:Nat} (hi:i < h.length) (h3:(ev h i).1=3) (hj:j < i) (h3':(ev h j).1=3):(ev h j).2.2.2≠(ev h i).2.2.2:=by
 intro he
 exact (sameVal_none _ _ _).1 ((((formStep_zero h i).1 (hw.2.1 i hi)).2.2 (by rw [h3];decide)).2.2.1 h3) j hj ⟨h3',he⟩
theorem wf_life (hw:WF h) {i:Nat} (hi:i < h.length):∃ f e,fstL h (ev h i).2.1 h.length=some f∧endL h (ev h i).2.1 h.length=some e∧f≤i∧i≤e∧e < h.length∧((ev h i).1=1↔i=f)∧(4≤(ev h i).1↔i=e):=by
 cases hf:fstL h (ev h i).2.1 h.length with
 | none=>exact absurd rfl ((fstL_none _ _ _).1 hf i hi)
 | some f =>
   cases he:endL h (ev h i).2.1 h.length with
   | none=>exact absurd he (hw.2.2 i hi)
   | some e =>
     obtain ⟨f1,f2,f3⟩:=(fstL_some _ _ _ _).1 hf
     obtain ⟨e1,e2,e3⟩:=(endL_some _ _ _ _).1 he
     have hfi:f≤i:=Nat.le_of_not_lt fun hh=>f3 i hh rfl
     have hie:i≤e:=Nat.le_of_not_lt fun hh=>wf_open hw hi hh e2
     refine ⟨f,e,rfl,rfl,hfi,hie,e1,⟨fun h1=>?_,fun h1=>?_⟩,⟨fun h4=>?_,fun h4=>?_⟩⟩
     ·rcases Nat.lt_or_ge f i with hh | hh
      ·exact absurd f2 (wf_first hw hi h1 hh)
      ·omega
     ·apply Classical.byContradiction
      intro hn
      obtain ⟨j,hj,hjt⟩:=wf_had hw hi hn
      exact f3 j (by omega) hjt
     ·have hm:=wf_may hw hi
      have hb:endB (ev h i) (ev h i).2.1:=⟨rfl,by have:=hm.1;omega⟩
      rcases Nat.lt_or_ge i e with hh | hh
      ·exact absurd hb (e3 i hh)
      ·omega
     ·subst h4
      rcases e2.2 with hh | hh<;>rw [hh]<;>decide
end
theorem verOf_some {h:List Ev} {key:List UInt8} {i k:Nat} (hv:verOf h key i=some k):(ev h i).1=4∧endL h (ev h i).2.1 h.length=some i∧k < i∧(ev h k).1=3∧(ev h k).2.1=(ev h i).2.1∧(ev h k).2.2.1=key∧∀ j,k < j→j < i→¬ ((ev h j).1=3∧(ev h j).2.1=(ev h i).2.1∧(ev h j).2.2.1=key):=by
 unfold verOf at hv
 by_cases hc:(ev h i).1=4∧endL h (ev h i).2.1 h.length=some i
 ·rw [if_pos hc] at hv
  obtain ⟨a,b,c⟩:=(lastN_some _ _ _ _ _).1 hv
  exact ⟨hc.1,hc.2,a,b.1,b.2.1,b.2.2,c⟩
 ·rw [if_neg hc] at hv;cases hv
def srcL (h:List Ev) (key:List UInt8):List Nat:=(List.range h.length).filter fun i=>(verOf h key i).isSome
theorem filterMap_filter {α β:Type} (f:α→Option β) (d:β):∀ l:List α,l.filterMap f=(l.filter fun i=>(f i).isSome).map fun i=>(f i).getD d
 | []=>rfl
 | x::l=>by
   cases hx:f x with
   | none=>rw [List.filterMap_cons_none hx,List.filter_cons_of_neg (by simp [hx]),filterMap_filter f d l]
   | some y=>rw [List.filterMap_cons_some hx,List.filter_cons_of_pos (by simp [hx]),List.map_cons,hx,filterMap_filter f d l];rfl
theorem vers_src (h:List Ev) (key:List UInt8):versL h key=(srcL h key).map fun i=>(verOf h key i).getD 0:=filterMap_filter _ _ _
theorem src_len (h:List Ev) (key:List UInt8):(srcL h key).length=(versL h key).length:=by rw [vers_src,List.length_map]
theorem src_sorted (h:List Ev) (key:List UInt8):(srcL h key).Pairwise (·< ·):=List.Pairwise.filter _ List.pairwise_lt_range
theorem src_at (h:List Ev) (key:List UInt8) (j:Nat) (hj:j < (versL h key).length):(srcL h key)[j]'(by rw [src_len];exact hj) < h.length∧verOf h key ((srcL h key)[j]'(by rw [src_len];exact hj))=some (versL h key)[j]:=by
 have hm:=List.getElem_mem (l:=srcL h key) (by rw [src_len];exact hj:j < (srcL h key).length)
 unfold srcL at hm
 rw [List.mem_filter,List.mem_range] at hm
 refine ⟨hm.1,?_⟩
 have e:(versL h key)[j]=(verOf h key ((srcL h key)[j]'(by rw [src_len];exact hj))).getD 0:=by simp only [vers_src,List.getElem_map]
 rw [e]
 obtain ⟨y,hy⟩:=Option.isSome_iff_exists.1 hm.2
 have hy':verOf h key ((srcL h key)[j]'(by rw [src_len];exact hj))=some y:=hy
 rw [hy'];rfl
end Go.Proofs.YtdlcimfifkhllaaGreat
namespace Go.Proofs.YtdlcimfifkhllaaGreat
set_option maxRecDepth 100000
set_option linter.unusedVariables false
def commL (h:List Ev) (t:Int):Option Nat :=
 match endL h t h.length with
 | none=>none
 | some e=>if (ev h e).1=4 then some e else none
theorem commL_some (h:List Ev) (t:Int) (e:Nat):commL h t=some e↔endL h t h.length=some e∧(ev h e).1=4:=by
 unfold commL
 cases he:endL h t h.length with
 | none=>simp
 | some e' =>
   simp only
   by_cases h4:(ev h e').1=4
   ·rw [if_pos h4]
    constructor
    ·intro hh;cases hh;exact ⟨rfl,h4⟩
    ·intro hh;cases hh.1;rfl
   ·rw [if_neg h4]
    constructor
    ·intro hh;cases hh
    ·intro hh;cases hh.1;exact absurd hh.2 h4
theorem comm_find (h:List Ev) (t:Int) (e:Nat) (hc:commL h t=some e):∃ f,findL h t=some (t,f,e,true):=by
 obtain ⟨h1,h2⟩:=(commL_some h t e).1 hc
 obtain ⟨e1,e2,e3⟩:=(endL_some _ _ _ _).1 h1
 cases hf:fstL h t h.length with
 | none=>exact absurd e2.1 ((fstL_none _ _ _).1 hf e e1)
 | some f=>exact ⟨f,by unfold findL;rw [hf,h1];simp only [h2];rfl⟩
theorem find_comm (h:List Ev) (t:Int) (a f e:Nat) (t':Int) (hf:findL h t=some (t',f,e,true)):t'=t∧commL h t=some e:=by
 unfold findL at hf
 cases h1:fstL h t h.length with
 | none=>rw [h1] at hf;cases hf
 | some f' =>
   rw [h1] at hf
   simp only at hf
   cases h2:endL h t h.length with
   | none=>rw [h2] at hf;simp at hf
   | some e' =>
     rw [h2] at hf
     simp only [Option.some.injEq,Prod.mk.injEq] at hf
     obtain ⟨rfl,rfl,rfl,h4⟩:=hf
     exact ⟨rfl,(commL_some _ _ _).2 ⟨h2,of_decide_eq_true h4⟩⟩
def countsL (h:List Ev) (i:Nat):Prop:=i < h.length∧(ev h i).1=2∧∃ e,commL h (ev h i).2.1=some e∧i < e
def countsB (h:List Ev) (i:Nat):Bool:=decide (i < h.length)&&decide ((ev h i).1=2)&&(match commL h (ev h i).2.1 with | some e=>decide (i < e) | none=>false)
theorem counts_iff (h:List Ev) (i:Nat):countsB h i=true↔countsL h i:=by
 unfold countsB countsL
 cases hc:commL h (ev h i).2.1 with
 | none=>simp
 | some e=>simp [and_assoc]
def atL (h:List Ev) (i:Nat):Int × Int × Int :=
 if countsB h i=false then (0,0,0) else
 match lastN h (ev h i).2.1 (ev h i).2.2.1 i with
 | some k=>if (ev h k).2.2.2=(ev h i).2.2.2 then (0,0,0) else (3,(i:Int),(k:Int))
 | none =>
   if (ev h i).2.2.2=[] then (0,0,0) else
   match writerL h (ev h i).2.2.1 (ev h i).2.2.2 with
   | none=>(0,0,0)
   | some w =>
     if (ev h w).2.1=(ev h i).2.1 then (4,(i:Int),(w:Int)) else
     match commL h (ev h w).2.1 with
     | none=>(1,(i:Int),(w:Int))
     | some e=>if lastN h (ev h w).2.1 (ev h i).2.2.1 (min h.length e)=some w then (0,0,0) else (2,(i:Int),oI (lastN h (ev h w).2.1 (ev h i).2.2.1 (min h.length e)))
def outerB (h:List Ev) (i:Nat):Bool:=countsB h i&&decide (lastN h (ev h i).2.1 (ev h i).2.2.1 i=none)
def badsL (h:List Ev):List (Int × Int × Int):=(List.range h.length).filterMap fun i=>if (atL h i).1=0 then none else some (atL h i)
def clean (h:List Ev):Prop:=∀ i,i < h.length→(atL h i).1=0
theorem bads_nil (h:List Ev):badsL h=[]↔clean h:=by
 unfold badsL clean
 rw [List.filterMap_eq_nil_iff]
 constructor
 ·intro hh i hi
  have:=hh i (List.mem_range.2 hi)
  by_cases h0:(atL h i).1=0
  ·exact h0
  ·rw [if_neg h0] at this;cases this
 ·intro hh i hi
  rw [if_pos (hh i (List.mem_range.1 hi))]
theorem at_zero (h:List Ev) (i:Nat) (h0:(atL h i).1=0):atL h i=(0,0,0):=by
 unfold atL at h0 ⊢
 repeat' split at h0
 all_goals first | (exfalso;revert h0;decide) | skip
 all_goals simp_all
theorem clean_own {h:List Ev} (hc:clean h) {i k:Nat} (hi:countsL h i) (hl:lastN h (ev h i).2.1 (ev h i).2.2.1 i=some k):(ev h k).2.2.2=(ev h i).2.2.2:=by
 have h0:=hc i hi.1
 unfold atL at h0
 rw [if_neg (by rw [(counts_iff h i).2 hi];simp),hl] at h0
 simp only at h0
 by_cases he:(ev h k).2.2.2=(ev h i).2.2.2
 ·exact he
 ·rw [if_neg he] at h0;revert h0;simp
theorem clean_other {h:List Ev} (hc:clean h) {i w:Nat} (hi:countsL h i) (hl:lastN h (ev h i).2.1 (ev h i).2.2.1 i=none) (hv:(ev h i).2.2.2≠[]) (hw:writerL h (ev h i).2.2.1 (ev h i).2.2.2=some w):(ev h w).2.1≠(ev h i).2.1∧∃ e,commL h (ev h w).2.1=some e∧lastN h (ev h w).2.1 (ev h i).2.2.1 e=some w:=by
 have h0:=hc i hi.1
 unfold atL at h0
 rw [if_neg (by rw [(counts_iff h i).2 hi];simp),hl] at h0
 simp only at h0
 rw [if_neg hv,hw] at h0
 simp only at h0
 by_cases ht:(ev h w).2.1=(ev h i).2.1
 ·rw [if_pos ht] at h0;revert h0;simp
 ·rw [if_neg ht] at h0
  refine ⟨ht,?_⟩
  cases hm:commL h (ev h w).2.1 with
  | none=>rw [hm] at h0;revert h0;simp
  | some e =>
    rw [hm] at h0
    simp only at h0
    have he:=((endL_some _ _ _ _).1 ((commL_some _ _ _).1 hm).1).1
    rw [Nat.min_eq_right (by omega)] at h0
    by_cases hl':lastN h (ev h w).2.1 (ev h i).2.2.1 e=some w
    ·exact ⟨e,rfl,hl'⟩
    ·rw [if_neg hl'] at h0;revert h0;simp
def lessB:List UInt8→List UInt8→Bool
 | [],[]=>false
 | [],_::_=>true
 | _::_,[]=>false
 | a::l,b::m=>if a < b then true else if a=b then lessB l m else false
def insK (k:List UInt8):List (List UInt8)→List (List UInt8)
 | []=>[k]
 | x::l=>if lessB x k=true then x::insK k l else if x=k then x::l else k::x::l
def keysF:List (List UInt8)→List Ev→List (List UInt8)
 | acc,[]=>acc
 | acc,x::l=>keysF (if keyedE x.1 then insK x.2.2.1 acc else acc) l
def keysL (h:List Ev):List (List UInt8):=keysF [] h
theorem insK_mem (k:List UInt8):∀ (l:List (List UInt8)) (y:List UInt8),y∈insK k l↔y=k∨y∈l
 | [],y=>by rw [insK];simp
 | x::l,y=>by
   rw [insK]
   by_cases h1:lessB x k=true
   ·rw [if_pos h1,List.mem_cons,insK_mem k l y,List.mem_cons]
    constructor
    ·rintro (h | h | h)
     ·exact .inr (.inl h)
     ·exact .inl h
     ·exact .inr (.inr h)
    ·rintro (h | h | h)
     ·exact .inr (.inl h)
     ·exact .inl h
     ·exact .inr (.inr h)
   ·rw [if_neg h1]
    by_cases h2:x=k
    ·rw [if_pos h2,List.mem_cons]
     constructor
     ·intro h;exact .inr h
     ·rintro (h | h)
      ·exact .inl (by rw [h,h2])
      ·exact h
    ·rw [if_neg h2,List.mem_cons]
theorem keysF_mem (y:List UInt8):∀ (l:List Ev) (acc:List (List UInt8)),y∈keysF acc l↔y∈acc∨∃ x∈l,keyedE x.1∧x.2.2.1=y
 | [],acc=>by rw [keysF];simp
 | x::l,acc=>by
   rw [keysF,keysF_mem y l]
   by_cases hk:keyedE x.1
   ·rw [if_pos hk,insK_mem]
    constructor
    ·rintro ((h | h) | ⟨z,hz,h1,h2⟩)
     ·exact .inr ⟨x,List.mem_cons_self ..,hk,h.symm⟩
     ·exact .inl h
     ·exact .inr ⟨z,List.mem_cons_of_mem _ hz,h1,h2⟩
    ·rintro (h | ⟨z,hz,h1,h2⟩)
     ·exact .inl (.inr h)
     ·rcases List.mem_cons.1 hz with rfl | hz
      ·exact .inl (.inl h2.symm)
      ·exact .inr ⟨z,hz,h1,h2⟩
   ·rw [if_neg hk]
    constructor
    ·rintro (h | ⟨z,hz,h1,h2⟩)
     ·exact .inl h
     ·exact .inr ⟨z,List.mem_cons_of_mem _ hz,h1,h2⟩
    ·rintro (h | ⟨z,hz,h1,h2⟩)
     ·exact .inl h
     ·rcases List.mem_cons.1 hz with rfl | hz
      ·exact absurd h1 hk
      ·exact .inr ⟨z,hz,h1,h2⟩
theorem keys_mem (h:List Ev) (y:List UInt8):y∈keysL h↔∃ i,i < h.length∧keyedE (ev h i).1∧(ev h i).2.2.1=y:=by
 unfold keysL
 rw [keysF_mem]
 constructor
 ·rintro (h' | ⟨x,hx,h1,h2⟩)
  ·cases h'
  ·obtain ⟨i,hi,rfl⟩:=List.getElem_of_mem hx
   exact ⟨i,hi,by rw [ev_get _ _ hi];exact h1,by rw [ev_get _ _ hi];exact h2⟩
 ·rintro ⟨i,hi,h1,h2⟩
  rw [ev_get _ _ hi] at h1 h2
  exact .inr ⟨h[i],List.getElem_mem hi,h1,h2⟩
abbrev Ed:=Int × Int × Int × Int × Int
def tx (h:List Ev) (i:Nat):Int:=(ev h i).2.1
def vAt (v:List Nat) (n:Nat):Nat:=v.getD n 0
def wEdge (h:List Ev) (v:List Nat) (n:Nat):Option Ed:=if tx h (vAt v n)=tx h (vAt v (n+1)) then none else some (1,tx h (vAt v n),tx h (vAt v (n+1)),(vAt v n:Int),(vAt v (n+1):Int))
def wEdges (h:List Ev) (v:List Nat):List Ed:=(List.range (v.length - 1)).filterMap (wEdge h v)
def verAt (h:List Ev) (v:List Nat) (i:Nat):Option Nat:=fi (fun n=>decide ((ev h (vAt v n)).2.2.2=(ev h i).2.2.2)) v.length
def rEdge (h:List Ev) (v:List Nat) (i n:Nat):List Ed:=if tx h (vAt v n)=tx h i then [] else [(2,tx h (vAt v n),tx h i,(vAt v n:Int),(i:Int))]
def oEdge (h:List Ev) (v:List Nat) (i n:Nat):List Ed:=if n < v.length∧tx h (vAt v n)≠tx h i then [(3,tx h i,tx h (vAt v n),(i:Int),(vAt v n:Int))] else []
def rdEdges (h:List Ev) (v:List Nat) (i:Nat):List Ed :=
 match verAt h v i with
 | none=>if (ev h i).2.2.2=[] then oEdge h v i 0 else []
 | some n=>rEdge h v i n++oEdge h v i (n+1)
def readOf (h:List Ev) (key:List UInt8) (i:Nat):Bool:=decide ((ev h i).2.2.1=key)&&outerB h i
def rEdges (h:List Ev) (key:List UInt8) (v:List Nat):List Ed:=(List.range h.length).flatMap fun i=>if readOf h key i=true then rdEdges h v i else []
def keyEdges (h:List Ev) (key:List UInt8):List Ed:=wEdges h (versL h key)++rEdges h key (versL h key)
def edgesL (h:List Ev):List Ed:=(keysL h).flatMap (keyEdges h)
def holdsL (h:List Ev) (e:Ed):Prop :=
 ∃ a b i j:Nat,commL h e.2.1=some a∧commL h e.2.2.1=some b∧e.2.1≠e.2.2.1∧e.2.2.2.1=(i:Int)∧e.2.2.2.2=(j:Int)∧i < h.length∧j < h.length∧(ev h i).2.2.1=(ev h j).2.2.1∧tx h i=e.2.1∧tx h j=e.2.2.1 ∧
 ((e.1=1∧(ev h i).1=3∧(ev h j).1=3∧a < b)∨(e.1=2∧(ev h i).1=3∧(ev h j).1=2∧(ev h i).2.2.2=(ev h j).2.2.2) ∨
  (e.1=3∧(ev h i).1=2∧(ev h j).1=3∧((ev h i).2.2.2=[]∨∃ w c,writerL h (ev h i).2.2.1 (ev h i).2.2.2=some w∧tx h w≠e.2.2.1∧commL h (tx h w)=some c∧c < b)))
def wayI (l:List Ed) (a:Int):Nat→Int→Prop
 | 0,b=>b=a
 | n+1,b=>∃ e,e∈l∧wayI l a n e.2.1∧b=e.2.2.1
def Way (l:List Ed) (a b:Int):Prop:=∃ n,wayI l a n b
theorem Way.here {l:List Ed} {a:Int}:Way l a a:=⟨0,rfl⟩
theorem Way.go {l:List Ed} {a:Int} (e:Ed) (he:e∈l) (h:Way l a e.2.1):Way l a e.2.2.1:=by
 obtain ⟨n,hn⟩:=h
 exact ⟨n+1,e,he,hn,rfl⟩
theorem Way.elim {l:List Ed} {a:Int} {motive:(b:Int)→Way l a b→Prop} (here:motive a Way.here) (go:∀ (e:Ed) (he:e∈l) (h:Way l a e.2.1),motive e.2.1 h→motive e.2.2.1 (Way.go e he h)) {b:Int} (h:Way l a b):motive b h:=by
 obtain ⟨n,hn⟩:=h
 induction n generalizing b with
 | zero=>have e:b=a:=hn
         subst e;exact here
 | succ n ih =>
   obtain ⟨e,he,h1,rfl⟩:=hn
   exact go e he ⟨n,h1⟩ (ih h1)
theorem Way.trans {l:List Ed} {a b c:Int} (h:Way l a b) (k:Way l b c):Way l a c:=by
 induction k using Way.elim with
 | here=>exact h
 | go e he _ ih=>exact .go e he ih
open Go.RowKit
def rot (p q x:Int):Int:=bits .or .u32 (x / p) (x*q % 4294967296)
def at_ (V:List Int) (i:Nat):Int:=V.getD i 0
def mx1 (V:List Int) (a b:Nat) (x:Int):List Int:=V.set a (((at_ V a+at_ V b) % 4294967296+x) % 4294967296)
def mx2 (p q:Int) (V:List Int) (d a:Nat):List Int:=V.set d (rot p q (bits .xor .u32 (at_ V d) (at_ V a)))
def mx3 (V:List Int) (c d:Nat):List Int:=V.set c ((at_ V c+at_ V d) % 4294967296)
theorem results_row_tmp {P:Program} {fn:Func} {p q:Tmp} {ty:TypeId} (h:fn.results=#[.cell p ty,.tmp q]) (tmps:Array Value) (w:World) (g:Nat) (t:TypeId) (cs:Array Value) (fr:Nat × Nat) (d:TypeDesc)
 (hp:tmps.getD p undef=.pointer (some ⟨g,0,none⟩)) (hg:w.heap[g]?=some (.cells cs t fr))
 (hu:P.underlying ty=some d) (hd:(match d with | .struct _ | .array _ _=>true | _=>false)=true) (hi:(P.info? ty).map (·.size)=some cs.size) :
 (results fn tmps).run P w=.ok (.tuple #[.agg cs,tmps.getD q undef]) w:=by
 have hp':tmps[p]?.getD undef=.pointer (some ⟨g,0,none⟩):=by simpa using hp
 simp [results,h,hp',asAddr,run_loadVar_row w g t ty cs fr d hg hu hd hi]
def half (p q r s:Int) (V:List Int) (a b c d:Nat) (x:Int):List Int:=mx2 r s (mx3 (mx2 p q (mx1 V a b x) d a) c d) b c
def hA (a b x:Int):Int:=((a+b) % 4294967296+x) % 4294967296
def hD (p q a b d x:Int):Int:=rot p q (bits .xor .u32 d (hA a b x))
def hC (p q a b c d x:Int):Int:=(c+hD p q a b d x) % 4294967296
def hB (p q r s a b c d x:Int):Int:=rot r s (bits .xor .u32 b (hC p q a b c d x))
end Go.Proofs.YtdlcimfifkhllaaGreat
namespace Go.Proofs.YtdlcimfifkhllaaGreat
set_option maxRecDepth 100000
open Go.RowKit
set_option linter.unusedVariables false
section
variable {P:Program} {ops:Array Oper} {md:Region.Mode} {w:World}
def seqI (md:Region.Mode) (ops:Array Oper):List Nat→Array Bool→Bool
 | [],listed=>(Region.ready md ops listed).isEmpty
 | i::is,listed=>decide (Region.ready md ops listed=[i])&&seqI md ops is (listed.setIfInBounds i true)
theorem any_seqI {Q:Exit→Act→World→Prop}:∀ (is:List Nat) (l:List Oper) (listed:Array Bool) (a:Act) (w:World),l.map some=is.map (fun i=>ops[i]?)→seqI md ops is listed=true→wpList P ops Q l a w→wpAny P md ops Q is.length listed a w
 | [],l,listed,a,w,hl,hB,h=>by
   obtain rfl:l=[]:=by cases l<;>simp_all
   exact ⟨by simpa [seqI] using hB,h⟩
 | i::is,l,listed,a,w,hl,hB,h=>by
   match l,hl,h with
   | o::l,hl,h =>
     simp only [List.map_cons,List.cons.injEq] at hl
     simp only [seqI,Bool.and_eq_true,decide_eq_true_eq] at hB
     refine ⟨fun h1=>(by rw [hB.1] at h1;cases h1),fun j hj=>?_⟩
     rw [hB.1] at hj
     obtain rfl:j=i:=by simpa using hj
     have hw:wpOp P ops Q j (wpList P ops Q l) a w:=by unfold wpOp;rw [← hl.1];exact h
     exact wpOp_mono (fun a' w' h'=>any_seqI is l _ a' w' hl.2 hB.2 h') hw
end
end Go.Proofs.YtdlcimfifkhllaaGreat
namespace Go.Proofs.YtdlcimfifkhllaaGreat
set_option maxRecDepth 100000
open Go.RowKit
set_option linter.unusedVariables false
def SBox (w:World) (g:Nat) (t:TypeId) (cs:Array Value):Prop:=w.heap[g]?=some (.cells cs t (0,0))
theorem SBox.lt {w:World} {g:Nat} {t:TypeId} {cs:Array Value} (h:SBox w g t cs):g < w.heap.size:=(Array.getElem?_eq_some_iff.1 h).1
theorem SBox.cell {w:World} {g:Nat} {t:TypeId} {cs:Array Value} (h:SBox w g t cs) (j:Nat) (u:Value) (hu:cs[j]?=some u):w.cell? ⟨g,j,none⟩=some u:=by
 unfold SBox at h
 simp [World.cell?,h,hu]
theorem SBox.frozen {w:World} {g:Nat} {t:TypeId} {cs:Array Value} (h:SBox w g t cs) (j:Nat):w.frozen? ⟨g,j,none⟩=false:=by
 unfold SBox at h
 simp [World.frozen?,h]
theorem SBox.set {w:World} {g:Nat} {t:TypeId} {cs:Array Value} (h:SBox w g t cs) (j:Nat) (v:Value):SBox (w.setCell ⟨g,j,none⟩ v) g t (cs.setIfInBounds j v):=by
 unfold SBox at h ⊢
 simp [World.setCell,Array.getElem?_modify,h]
theorem SBox.other {w:World} {g:Nat} {t:TypeId} {cs:Array Value} (h:SBox w g t cs) (k j:Nat) (v:Value) (hne:k≠g):SBox (w.setCell ⟨k,j,none⟩ v) g t cs:=by
 unfold SBox at h ⊢
 simp [World.setCell,Array.getElem?_modify,h,hne]
theorem SBox.below {w w':World} {g:Nat} {t:TypeId} {cs:Array Value} (h:SBox w g t cs) (b:Below w.heap.size w w'):SBox w' g t cs:=(b.block g h.lt).trans h
theorem SBox.alloc {w:World} {g:Nat} {t:TypeId} {cs:Array Value} (h:SBox w g t cs) (o:Obj):SBox (w.alloc o) g t cs:=h.below ((Below.refl _ w).alloc (Nat.le_refl _) o)
theorem SBox.new (w:World) (t:TypeId) (cs:Array Value):SBox (w.alloc (.cells cs t)) w.heap.size t cs:=by
 show (w.heap.push (.cells cs t))[w.heap.size]?=_
 simp
theorem SBox.put4 {w:World} {g:Nat} {t:TypeId} {p q r s:Value} (h:SBox w g t #[p,q,r,s]) (a b c d:Value):SBox ((((w.setCell ⟨g,0,none⟩ a).setCell ⟨g,1,none⟩ b).setCell ⟨g,2,none⟩ c).setCell ⟨g,3,none⟩ d) g t #[a,b,c,d] :=
 (((h.set 0 a).set 1 b).set 2 c).set 3 d
theorem SBox.put4_other {w:World} {g k:Nat} {t:TypeId} {cs:Array Value} (h:SBox w g t cs) (hne:k≠g) (a b c d:Value):SBox ((((w.setCell ⟨k,0,none⟩ a).setCell ⟨k,1,none⟩ b).setCell ⟨k,2,none⟩ c).setCell ⟨k,3,none⟩ d) g t cs :=
 (((h.other k 0 a hne).other k 1 b hne).other k 2 c hne).other k 3 d hne
theorem bel_put4 {B:Nat} {a w:World} (h:Below B a w) {g:Nat} (hg:B≤g) (p q r s:Value):Below B a ((((w.setCell ⟨g,0,none⟩ p).setCell ⟨g,1,none⟩ q).setCell ⟨g,2,none⟩ r).setCell ⟨g,3,none⟩ s) :=
 (((h.setCell (p:=⟨g,0,none⟩) hg p).setCell (p:=⟨g,1,none⟩) hg q).setCell (p:=⟨g,2,none⟩) hg r).setCell (p:=⟨g,3,none⟩) hg s
theorem cell_bel {W W':World} (b:Below W.heap.size W W') {a:Addr} {v:Value} (h:W.cell? a=some v):W'.cell? a=some v:=by
 have hlt:a.block < W.heap.size:=by
  rcases Nat.lt_or_ge a.block W.heap.size with h' | h'
  ·exact h'
  ·simp [World.cell?,Array.getElem?_eq_none h'] at h
 rw [b.cell hlt]
 exact h
abbrev evW (x:Ev):Value:=.agg #[.int .i64 x.1,.int .i64 x.2.1,.string ⟨x.2.2.1.toArray⟩,.string ⟨x.2.2.2.toArray⟩]
theorem ne_nil7 (l:List UInt8) (h:l≠[]):l.isEmpty=false:=by cases l with
 | nil=>exact absurd rfl h
 | cons _ _=>rfl
theorem owns_keep7 {W:World} {B e k n g j:Nat} {v:Value} {xs:List Value} (h:W.ownsRow B e k v n xs) (u:Value) (hne:some g≠v.ownBlock):(W.setCell ⟨g,j,none⟩ u).ownsRow B e k v n xs:=h.kept (Lib.grownBy_setCell W g j u) (.inr (fun e=>hne e.symm))
theorem cell_new7 {W:World} {c:Array Value} {t:TypeId} {b j:Nat} {u:Value} (hb:b=W.heap.size) (h:c[j]?=some u):(W.alloc (.cells c t)).cell? ⟨b,j,none⟩=some u:=by
 subst hb
 rw [World.cell?_alloc_new]
 exact h
theorem IsEvs.reads {w:World} {v:Value} {h:List Ev} (hT:IsEvs w v h):∃ a cap,v=.slice a h.length cap∧h.length≤cap∧cap≤9223372036854775807∧h.length≤140737488351232 ∧
 Hid (0 < h.length→∃ b off,a=some ⟨b,off,none⟩∧Hid (∀ j,j < h.length→∀ V,Below w.heap.size w V→V.cell? ⟨b,off+j*4,none⟩=some (.int .i64 (ev h j).1)∧V.cell? ⟨b,off+j*4+1,none⟩=some (.int .i64 (ev h j).2.1)∧V.cell? ⟨b,off+j*4+2,none⟩=some (.string ⟨(ev h j).2.2.1.toArray⟩)∧V.cell? ⟨b,off+j*4+3,none⟩=some (.string ⟨(ev h j).2.2.2.toArray⟩))):=by
 obtain ⟨a,cap,rfl,h1,h2,h3,HC⟩:=hT.some_at
 refine ⟨a,cap,rfl,h1,h2,h3,?_⟩
 intro h0
 obtain ⟨b,off,rfl,hlt,_⟩:=HC.out 0 h0
 refine ⟨b,off,rfl,?_⟩
 intro j hj V hV
 obtain ⟨b',off',hbo,_,hc⟩:=HC.out j hj
 obtain ⟨rfl,rfl⟩:b=b'∧off=off':=by simpa using hbo
 obtain ⟨s0,s1,s2,s3⟩:=IsEvs.at hj hc
 rw [ev_get h j hj]
 exact ⟨(hV.cell (p:=⟨b,off+j*4,none⟩) hlt).trans s0,(hV.cell (p:=⟨b,off+j*4+1,none⟩) hlt).trans s1,(hV.cell (p:=⟨b,off+j*4+2,none⟩) hlt).trans s2,(hV.cell (p:=⟨b,off+j*4+3,none⟩) hlt).trans s3⟩
theorem upto_next (p:Nat→Bool) (q:Nat) (h:∀ j,j < q→p j=false) (hq:p q=false):∀ j,j < q+1→p j=false:=fun j hj=>by
 rcases Nat.lt_or_ge j q with h' | h'
 ·exact h j h'
 ·obtain rfl:j=q:=by omega
  exact hq
def edV (x:Ed):List Value:=[.int .i64 x.1,.int .i64 x.2.1,.int .i64 x.2.2.1,.int .i64 x.2.2.2.1,.int .i64 x.2.2.2.2]
theorem edV_len (x:Ed):(edV x).length=5:=rfl
abbrev IsEds (w:World) (v:Value) (L:List Ed):Prop:=IsRec 5 edV w v L
theorem ed_info:(Tryz.prog.info? 71).map (fun i=>(i.zero,i.size,i.bytes))=some (some (.agg #[.int .i64 0,.int .i64 0,.int .i64 0,.int .i64 0,.int .i64 0]),5,40):=by kernel_rfl
def EdRow (t:TypeId) (w:World) (L:List Ed) (e:Ending) (w':World):Prop:=∃ v,e=.returned v∧Below w.heap.size w w'∧w'.ownsRow w.heap.size t 5 v L.length (recV edV L)
theorem comm_none (h:List Ev) (t:Int) (he:endL h t h.length=none):commL h t=none:=by unfold commL;rw [he]
theorem comm_yes (h:List Ev) (t:Int) (e:Nat) (he:endL h t h.length=some e) (h4:(ev h e).1=4):commL h t=some e:=by unfold commL;rw [he];simp only;rw [if_pos h4]
theorem comm_no (h:List Ev) (t:Int) (e:Nat) (he:endL h t h.length=some e) (h4:(ev h e).1≠4):commL h t=none:=by unfold commL;rw [he];simp only;rw [if_neg h4]
def srcAt (h:List Ev) (key:List UInt8) (n:Nat):Nat:=(srcL h key).getD n 0
theorem vAt_get (v:List Nat) (n:Nat) (hn:n < v.length):vAt v n=v[n]:=by unfold vAt;rw [List.getD_eq_getElem?_getD,List.getElem?_eq_getElem hn];rfl
theorem srcAt_get (h:List Ev) (key:List UInt8) (n:Nat) (hn:n < (versL h key).length):srcAt h key n=(srcL h key)[n]'(by rw [src_len];exact hn):=by
 unfold srcAt;rw [List.getD_eq_getElem?_getD,List.getElem?_eq_getElem (by rw [src_len];exact hn)];rfl
theorem ver_facts (h:List Ev) (key:List UInt8) (n:Nat) (hn:n < (versL h key).length):srcAt h key n < h.length∧commL h (tx h (vAt (versL h key) n))=some (srcAt h key n)∧vAt (versL h key) n < srcAt h key n∧(ev h (vAt (versL h key) n)).1=3∧(ev h (vAt (versL h key) n)).2.2.1=key:=by
 rw [vAt_get _ _ hn,srcAt_get _ _ _ hn]
 obtain ⟨s1,s2⟩:=src_at h key n hn
 obtain ⟨a,b,c,d,e,f,_⟩:=verOf_some s2
 exact ⟨s1,(commL_some _ _ _).2 ⟨by unfold tx;rw [e];exact b,a⟩,c,d,f⟩
theorem src_lt (h:List Ev) (key:List UInt8) (n m:Nat) (hnm:n < m) (hm:m < (versL h key).length):srcAt h key n < srcAt h key m:=by
 rw [srcAt_get _ _ _ (by omega),srcAt_get _ _ _ hm]
 exact List.pairwise_iff_getElem.1 (src_sorted h key) n m _ _ hnm
theorem src_mono (h:List Ev) (key:List UInt8) (n m:Nat) (hn:n < (versL h key).length) (hm:m < (versL h key).length) (hlt:srcAt h key n < srcAt h key m):n < m:=by
 rcases Nat.lt_trichotomy n m with hh | hh | hh
 ·exact hh
 ·rw [hh] at hlt;omega
 ·have:=src_lt h key m n hh hn;omega
theorem tx_ne (h:List Ev) (key:List UInt8) (n m:Nat) (hnm:n < m) (hm:m < (versL h key).length):tx h (vAt (versL h key) n)≠tx h (vAt (versL h key) m):=by
 intro he
 have h1:=(ver_facts h key n (by omega)).2.1
 have h2:=(ver_facts h key m hm).2.1
 rw [he,h2] at h1
 have:=src_lt h key n m hnm hm
 have:=Option.some.inj h1
 omega
theorem ver_index (h:List Ev) (key:List UInt8) (t:Int) (e w:Nat) (hc:commL h t=some e) (hl:lastN h t key e=some w):∃ n,n < (versL h key).length∧vAt (versL h key) n=w∧srcAt h key n=e:=by
 obtain ⟨c1,c2⟩:=(commL_some _ _ _).1 hc
 obtain ⟨q1,q2,q3⟩:=(endL_some _ _ _ _).1 c1
 have hv:verOf h key e=some w:=by
  unfold verOf
  rw [q2.1,if_pos ⟨c2,c1⟩];exact hl
 have hm:e∈srcL h key:=by
  unfold srcL
  rw [List.mem_filter]
  exact ⟨List.mem_range.2 q1,by rw [hv];rfl⟩
 obtain ⟨n,hn,he⟩:=List.getElem_of_mem hm
 have hn':n < (versL h key).length:=by rw [← src_len];exact hn
 refine ⟨n,hn',?_,by rw [srcAt_get _ _ _ hn'];exact he⟩
 have:=(src_at h key n hn').2
 rw [he,hv] at this
 rw [vAt_get _ _ hn']
 exact (Option.some.inj this).symm
theorem outer_iff (h:List Ev) (i:Nat):outerB h i=true↔countsL h i∧lastN h (ev h i).2.1 (ev h i).2.2.1 i=none:=by
 unfold outerB
 rw [Bool.and_eq_true,counts_iff,decide_eq_true_eq]
theorem edge_cases (h:List Ev) (e:Ed) (he:e∈edgesL h):∃ key,(∃ n,n+1 < (versL h key).length∧e=(1,tx h (vAt (versL h key) n),tx h (vAt (versL h key) (n+1)),(vAt (versL h key) n:Int),(vAt (versL h key) (n+1):Int))) ∨
 (∃ i,countsL h i∧lastN h (ev h i).2.1 (ev h i).2.2.1 i=none∧(ev h i).2.2.1=key ∧
  ((∃ n,verAt h (versL h key) i=some n∧tx h (vAt (versL h key) n)≠tx h i∧e=(2,tx h (vAt (versL h key) n),tx h i,(vAt (versL h key) n:Int),(i:Int))) ∨
   (∃ n,((verAt h (versL h key) i=none∧(ev h i).2.2.2=[]∧n=0)∨∃ m,verAt h (versL h key) i=some m∧n=m+1)∧n < (versL h key).length∧tx h (vAt (versL h key) n)≠tx h i∧e=(3,tx h i,tx h (vAt (versL h key) n),(i:Int),(vAt (versL h key) n:Int))))):=by
 unfold edgesL at he
 obtain ⟨key,hk,he⟩:=List.mem_flatMap.1 he
 refine ⟨key,?_⟩
 unfold keyEdges at he
 rcases List.mem_append.1 he with he | he
 ·left
  unfold wEdges at he
  obtain ⟨n,hn,he⟩:=List.mem_filterMap.1 he
  rw [List.mem_range] at hn
  unfold wEdge at he
  by_cases ht:tx h (vAt (versL h key) n)=tx h (vAt (versL h key) (n+1))
  ·rw [if_pos ht] at he;cases he
  ·rw [if_neg ht] at he;exact ⟨n,by omega,(Option.some.inj he).symm⟩
 ·right
  unfold rEdges at he
  obtain ⟨i,hi,he⟩:=List.mem_flatMap.1 he
  by_cases hr:readOf h key i=true
  ·rw [if_pos hr] at he
   unfold readOf at hr
   rw [Bool.and_eq_true,decide_eq_true_eq,outer_iff] at hr
   obtain ⟨hkey,hc,hl⟩:=hr
   refine ⟨i,hc,hl,hkey,?_⟩
   have hO:∀ n,e∈oEdge h (versL h key) i n→n < (versL h key).length∧tx h (vAt (versL h key) n)≠tx h i∧e=(3,tx h i,tx h (vAt (versL h key) n),(i:Int),(vAt (versL h key) n:Int)):=fun n hn=>by
    unfold oEdge at hn
    by_cases hh:n < (versL h key).length∧tx h (vAt (versL h key) n)≠tx h i
    ·rw [if_pos hh,List.mem_singleton] at hn;exact ⟨hh.1,hh.2,hn⟩
    ·rw [if_neg hh] at hn;cases hn
   unfold rdEdges at he
   cases hv:verAt h (versL h key) i with
   | none =>
     rw [hv] at he
     simp only at he
     by_cases hev:(ev h i).2.2.2=[]
     ·rw [if_pos hev] at he
      exact .inr ⟨0,.inl ⟨rfl,hev,rfl⟩,hO 0 he⟩
     ·rw [if_neg hev] at he;cases he
   | some n =>
     rw [hv] at he
     simp only at he
     rcases List.mem_append.1 he with he | he
     ·unfold rEdge at he
      by_cases ht:tx h (vAt (versL h key) n)=tx h i
      ·rw [if_pos ht] at he;cases he
      ·rw [if_neg ht,List.mem_singleton] at he
       exact .inl ⟨n,rfl,ht,he⟩
     ·exact .inr ⟨n+1,.inr ⟨n,rfl,rfl⟩,hO _ he⟩
  ·rw [if_neg hr] at he;cases he
theorem w_edge (h:List Ev) (key:List UInt8) (hk:key∈keysL h) (n:Nat) (hn:n+1 < (versL h key).length):(1,tx h (vAt (versL h key) n),tx h (vAt (versL h key) (n+1)),(vAt (versL h key) n:Int),(vAt (versL h key) (n+1):Int))∈edgesL h:=by
 refine List.mem_flatMap.2 ⟨key,hk,List.mem_append.2 (.inl (List.mem_filterMap.2 ⟨n,List.mem_range.2 (by omega),?_⟩))⟩
 unfold wEdge
 rw [if_neg (tx_ne h key n (n+1) (by omega) hn)]
theorem ver_key (h:List Ev) (key:List UInt8) (n:Nat) (hn:n < (versL h key).length):key∈keysL h:=by
 obtain ⟨a,b,c,d,e⟩:=ver_facts h key n hn
 exact (keys_mem h key).2 ⟨vAt (versL h key) n,by omega,.inr d,e⟩
theorem v_way (h:List Ev) (key:List UInt8) (n:Nat):∀ m,n≤m→m < (versL h key).length→Way (edgesL h) (tx h (vAt (versL h key) n)) (tx h (vAt (versL h key) m))
 | 0,hnm,hm=>by rw [show n=0 by omega];exact .here
 | m+1,hnm,hm=>by
   rcases Nat.lt_or_ge m n with hh | hh
   ·rw [show n=m+1 by omega];exact .here
   ·exact .go _ (w_edge h key (ver_key h key _ hm) m hm) (v_way h key n m hh (by omega))
theorem r_edges (h:List Ev) (i:Nat) (hc:countsL h i) (hl:lastN h (ev h i).2.1 (ev h i).2.2.1 i=none) (e:Ed) (he:e∈rdEdges h (versL h (ev h i).2.2.1) i):e∈edgesL h:=by
 refine List.mem_flatMap.2 ⟨(ev h i).2.2.1,(keys_mem h _).2 ⟨i,hc.1,.inl hc.2.1,rfl⟩,List.mem_append.2 (.inr (List.mem_flatMap.2 ⟨i,List.mem_range.2 hc.1,?_⟩))⟩
 rw [if_pos]
 ·exact he
 ·unfold readOf
  rw [Bool.and_eq_true,decide_eq_true_eq,outer_iff]
  exact ⟨rfl,hc,hl⟩
theorem verAt_some (h:List Ev) (v:List Nat) (i n:Nat):verAt h v i=some n↔n < v.length∧(ev h (vAt v n)).2.2.2=(ev h i).2.2.2∧∀ j,j < n→(ev h (vAt v j)).2.2.2≠(ev h i).2.2.2:=by
 unfold verAt
 rw [fi_some]
 constructor
 ·intro ⟨a,b,c⟩;exact ⟨a,of_decide_eq_true b,fun j hj=>of_decide_eq_false (c j hj)⟩
 ·intro ⟨a,b,c⟩;exact ⟨a,decide_eq_true b,fun j hj=>decide_eq_false (c j hj)⟩
theorem verAt_none (h:List Ev) (v:List Nat) (i:Nat):verAt h v i=none↔∀ j,j < v.length→(ev h (vAt v j)).2.2.2≠(ev h i).2.2.2:=by
 unfold verAt
 rw [fi_none]
 constructor
 ·intro hh j hj;exact of_decide_eq_false (hh j hj)
 ·intro hh j hj;exact decide_eq_false (hh j hj)
theorem wr_one {h:List Ev} (hw:WF h) {i j:Nat} (hi:i < h.length) (hj:j < h.length) (h3:(ev h i).1=3) (h3':(ev h j).1=3) (hv:(ev h i).2.2.2=(ev h j).2.2.2):i=j:=by
 rcases Nat.lt_trichotomy i j with hh | hh | hh
 ·exact absurd hv (wf_vals hw hj h3' hh h3)
 ·exact hh
 ·exact absurd hv.symm (wf_vals hw hi h3 hh h3')
theorem wr_nonempty {h:List Ev} (hw:WF h) {i:Nat} (hi:i < h.length) (h3:(ev h i).1=3):(ev h i).2.2.2≠[]:=by
 have hm:=(wf_may hw hi).2
 rw [if_pos (show keyedE (ev h i).1 from Or.inr h3)] at hm
 intro he
 rw [he] at hm
 have:=hm.2.2.2
 rw [h3] at this
 simp at this
theorem writer_is {h:List Ev} (hw:WF h) {j:Nat} (hj:j < h.length) (h3:(ev h j).1=3):writerL h (ev h j).2.2.1 (ev h j).2.2.2=some j:=by
 rw [writerL_some]
 exact ⟨hj,⟨h3,rfl,rfl⟩,fun k hk hh=>wf_vals hw hj h3 hk hh.1 hh.2.2⟩
theorem edges_apart (h:List Ev) (e:Ed) (he:e∈edgesL h):∃ a b i j:Nat,commL h e.2.1=some a∧commL h e.2.2.1=some b∧e.2.1≠e.2.2.1∧e.2.2.2.1=(i:Int)∧e.2.2.2.2=(j:Int)∧i < h.length∧j < h.length∧(ev h i).2.2.1=(ev h j).2.2.1∧tx h i=e.2.1∧tx h j=e.2.2.1:=by
 obtain ⟨key,⟨n,hn,rfl⟩ | ⟨i,hc,hl,hkey,⟨n,hv,ht,rfl⟩ | ⟨n,_,hn,ht,rfl⟩⟩⟩:=edge_cases h e he
 ·obtain ⟨a1,a2,a3,a4,a5⟩:=ver_facts h key n (by omega)
  obtain ⟨b1,b2,b3,b4,b5⟩:=ver_facts h key (n+1) hn
  exact ⟨_,_,_,_,a2,b2,tx_ne h key n (n+1) (by omega) hn,rfl,rfl,by omega,by omega,by rw [a5,b5],rfl,rfl⟩
 ·obtain ⟨a1,a2,a3,a4,a5⟩:=ver_facts h key n ((verAt_some _ _ _ _).1 hv).1
  obtain ⟨e',c1,c2⟩:=hc.2.2
  exact ⟨_,_,_,_,a2,c1,ht,rfl,rfl,by omega,hc.1,by rw [a5,hkey],rfl,rfl⟩
 ·obtain ⟨a1,a2,a3,a4,a5⟩:=ver_facts h key n hn
  obtain ⟨e',c1,c2⟩:=hc.2.2
  exact ⟨_,_,_,_,c1,a2,fun hh=>ht hh.symm,rfl,rfl,hc.1,by omega,by rw [a5,hkey],rfl,rfl⟩
theorem edges_hold {h:List Ev} (hw:WF h) (e:Ed) (he:e∈edgesL h):holdsL h e:=by
 obtain ⟨key,⟨n,hn,rfl⟩ | ⟨i,hc,hl,hkey,⟨n,hv,ht,rfl⟩ | ⟨n,hn0,hn,ht,rfl⟩⟩⟩:=edge_cases h e he
 ·obtain ⟨a1,a2,a3,a4,a5⟩:=ver_facts h key n (by omega)
  obtain ⟨b1,b2,b3,b4,b5⟩:=ver_facts h key (n+1) hn
  exact ⟨_,_,_,_,a2,b2,tx_ne h key n (n+1) (by omega) hn,rfl,rfl,by omega,by omega,by rw [a5,b5],rfl,rfl,.inl ⟨rfl,a4,b4,src_lt h key n (n+1) (by omega) hn⟩⟩
 ·obtain ⟨v1,v2,v3⟩:=(verAt_some _ _ _ _).1 hv
  obtain ⟨a1,a2,a3,a4,a5⟩:=ver_facts h key n v1
  obtain ⟨e',c1,c2⟩:=hc.2.2
  exact ⟨_,_,_,_,a2,c1,ht,rfl,rfl,by omega,hc.1,by rw [a5,hkey],rfl,rfl,.inr (.inl ⟨rfl,a4,hc.2.1,v2⟩)⟩
 ·obtain ⟨a1,a2,a3,a4,a5⟩:=ver_facts h key n hn
  obtain ⟨e',c1,c2⟩:=hc.2.2
  refine ⟨_,_,_,_,c1,a2,fun hh=>ht hh.symm,rfl,rfl,hc.1,by omega,by rw [a5,hkey],rfl,rfl,.inr (.inr ⟨rfl,hc.2.1,a4,?_⟩)⟩
  rcases hn0 with ⟨_,hv,_⟩ | ⟨m,hm,rfl⟩
  ·exact .inl hv
  ·right
   obtain ⟨v1,v2,v3⟩:=(verAt_some _ _ _ _).1 hm
   obtain ⟨m1,m2,m3,m4,m5⟩:=ver_facts h key m v1
   refine ⟨vAt (versL h key) m,srcAt h key m,?_,tx_ne h key m (m+1) (by omega) hn,m2,src_lt h key m (m+1) (by omega) hn⟩
   have:=writer_is hw (by omega) m4
   rw [m5,v2] at this
   rw [hkey]
   exact this
theorem edges_follow {h:List Ev} (hw:WF h) (hcl:clean h) (e:Ed) (he:holdsL h e):Way (edgesL h) e.2.1 e.2.2.1:=by
 obtain ⟨a,b,i,j,ca,cb,hne,hI,hJ,hi,hj,hkey,ti,tj,hcase⟩:=he
 have vers:∀ (t:Int) (c q:Nat),commL h t=some c→q < h.length→(ev h q).1=3→tx h q=t→∃ n,n < (versL h (ev h q).2.2.1).length∧tx h (vAt (versL h (ev h q).2.2.1) n)=t∧srcAt h (ev h q).2.2.1 n=c:=by
  intro t c q hc hq h3 ht
  obtain ⟨c1,c2⟩:=(commL_some _ _ _).1 hc
  obtain ⟨f',e',g0,g1,g2,g3,g4,g5,g6⟩:=wf_life hw hq
  have ht':(ev h q).2.1=t:=ht
  rw [ht',c1] at g1
  cases g1
  have hqe:q≠c:=fun hh=>by rw [hh,c2] at h3;cases h3
  cases hl:lastN h t (ev h q).2.2.1 c with
  | none=>exact absurd ⟨h3,ht,rfl⟩ ((lastN_none _ _ _ _).1 hl q (by omega))
  | some w =>
    obtain ⟨n,n1,n2,n3⟩:=ver_index h (ev h q).2.2.1 t c w hc hl
    refine ⟨n,n1,?_,n3⟩
    rw [n2];exact ((lastN_some _ _ _ _ _).1 hl).2.1.2.1
 have along:∀ (key:List UInt8) (n m:Nat),n < (versL h key).length→m < (versL h key).length→srcAt h key n < srcAt h key m→Way (edgesL h) (tx h (vAt (versL h key) n)) (tx h (vAt (versL h key) m)):=fun key n m hn hm hlt=>v_way h key n m (by have:=src_mono h key n m hn hm hlt;omega) hm
 rcases hcase with ⟨_,hi3,hj3,hab⟩ | ⟨_,hi3,hj2,hv⟩ | ⟨_,hi2,hj3,hv⟩
 ·obtain ⟨n,n1,n2,n3⟩:=vers e.2.1 a i ca hi hi3 ti
  obtain ⟨m,m1,m2,m3⟩:=vers e.2.2.1 b j cb hj hj3 tj
  rw [← hkey] at m1 m2 m3
  have:=along _ n m n1 m1 (by omega)
  rw [n2,m2] at this
  exact this
 ·
  obtain ⟨f',e',g0,g1,g2,g3,g4,g5,g6⟩:=wf_life hw hj
  have tj':(ev h j).2.1=e.2.2.1:=tj
  have hjb:j < b:=by
   have:=((commL_some _ _ _).1 cb).1
   rw [tj',this] at g1
   cases g1
   have:j≠b:=fun hh=>by have:=((commL_some _ _ _).1 cb).2;rw [← hh,hj2] at this;cases this
   omega
  have hcj:countsL h j:=⟨hj,hj2,b,by rw [tj'];exact cb,hjb⟩
  have hln:lastN h (ev h j).2.1 (ev h j).2.2.1 j=none:=by
   cases hl:lastN h (ev h j).2.1 (ev h j).2.2.1 j with
   | none=>rfl
   | some k =>
     exfalso
     have hk:=clean_own hcl hcj hl
     obtain ⟨l1,l2,_⟩:=(lastN_some _ _ _ _ _).1 hl
     have:k=i:=wr_one hw (by omega) hi l2.1 hi3 (by rw [hk,hv])
     apply hne
     rw [← ti,← tj,← this]
     exact l2.2.1
  have hwr:writerL h (ev h j).2.2.1 (ev h j).2.2.2=some i:=by
   have:=writer_is hw hi hi3
   rw [hkey,hv] at this
   exact this
  have hvne:(ev h j).2.2.2≠[]:=by rw [← hv];exact wr_nonempty hw hi hi3
  obtain ⟨o1,c,o2,o3⟩:=clean_other hcl hcj hln hvne hwr
  obtain ⟨n,n1,n2,n3⟩:=ver_index h (ev h j).2.2.1 (ev h i).2.1 c i o2 o3
  have hva:verAt h (versL h (ev h j).2.2.1) j=some n:=by
   rw [verAt_some]
   refine ⟨n1,by rw [n2,hv],fun q hq hh=>?_⟩
   obtain ⟨r1,r2,r3,r4,r5⟩:=ver_facts h (ev h j).2.2.1 q (by omega)
   have:vAt (versL h (ev h j).2.2.1) q=i:=wr_one hw (by omega) hi r4 hi3 (by rw [hh,hv])
   exact tx_ne h (ev h j).2.2.1 q n hq n1 (by rw [this,n2])
  have hed:=r_edges h j hcj hln (2,tx h i,tx h j,(i:Int),(j:Int)) (by
   unfold rdEdges
   rw [hva]
   refine List.mem_append.2 (.inl ?_)
   unfold rEdge
   rw [n2,if_neg (show ¬ tx h i=tx h j from o1)]
   exact List.mem_singleton.2 rfl)
  have:=Way.go (a:=tx h i) _ hed .here
  rw [← ti,← tj]
  exact this
 ·
  obtain ⟨f',e',g0,g1,g2,g3,g4,g5,g6⟩:=wf_life hw hi
  have ti':(ev h i).2.1=e.2.1:=ti
  have hia:i < a:=by
   have:=((commL_some _ _ _).1 ca).1
   rw [ti',this] at g1
   cases g1
   have:i≠a:=fun hh=>by have:=((commL_some _ _ _).1 ca).2;rw [← hh,hi2] at this;cases this
   omega
  have hci:countsL h i:=⟨hi,hi2,a,by rw [ti'];exact ca,hia⟩
  obtain ⟨m,m1,m2,m3⟩:=vers e.2.2.1 b j cb hj hj3 tj
  rw [← hkey] at m1 m2 m3
  have over:∀ n,n≤m→(∀ x:Ed,x∈oEdge h (versL h (ev h i).2.2.1) i n→x∈rdEdges h (versL h (ev h i).2.2.1) i)→lastN h (ev h i).2.1 (ev h i).2.2.1 i=none→Way (edgesL h) e.2.1 e.2.2.1:=by
   intro n hnm hsub hln
   by_cases ht:tx h (vAt (versL h (ev h i).2.2.1) n)=tx h i
   ·have:=v_way h (ev h i).2.2.1 n m hnm m1
    rw [ht,ti,m2] at this
    exact this
   ·have hed:=r_edges h i hci hln (3,tx h i,tx h (vAt (versL h (ev h i).2.2.1) n),(i:Int),(vAt (versL h (ev h i).2.2.1) n:Int)) (hsub _ (by
     unfold oEdge
     rw [if_pos ⟨by omega,ht⟩]
     exact List.mem_singleton.2 rfl))
    have w1:=Way.go (a:=tx h i) _ hed .here
    have w2:=v_way h (ev h i).2.2.1 n m hnm m1
    rw [m2] at w2
    have:=w1.trans w2
    rw [ti] at this
    exact this
  cases hl:lastN h (ev h i).2.1 (ev h i).2.2.1 i with
  | some k =>
    have hk:=clean_own hcl hci hl
    obtain ⟨l1,l2,_⟩:=(lastN_some _ _ _ _ _).1 hl
    rcases hv with hv | ⟨w,c,w1,w2,w3,w4⟩
    ·exact absurd (by rw [hk,hv]) (wr_nonempty hw (by omega) l2.1)
    ·obtain ⟨p1,p2,_⟩:=(writerL_some _ _ _ _).1 w1
     have hwk:w=k:=wr_one hw p1 (by omega) p2.1 l2.1 (by rw [p2.2.2,hk])
     have htw:tx h w=e.2.1:=by rw [hwk];exact l2.2.1.trans ti
     rw [htw,ca] at w3
     cases w3
     obtain ⟨n,n1,n2,n3⟩:=vers e.2.1 a k ca (by omega) l2.1 (by rw [← hwk];exact htw)
     rw [l2.2.2] at n1 n2 n3
     have:=along _ n m n1 m1 (by omega)
     rw [n2,m2] at this
     exact this
  | none =>
    by_cases hev:(ev h i).2.2.2=[]
    ·have hva:verAt h (versL h (ev h i).2.2.1) i=none:=by
      rw [verAt_none]
      intro q hq hh
      obtain ⟨r1,r2,r3,r4,r5⟩:=ver_facts h (ev h i).2.2.1 q hq
      exact wr_nonempty hw (by omega) r4 (by rw [hh,hev])
     exact over 0 (by omega) (fun x hx=>by unfold rdEdges;rw [hva];simp only;rw [if_pos hev];exact hx) hl
    ·rcases hv with hv | ⟨w,c,w1,w2,w3,w4⟩
     ·exact absurd hv hev
     ·obtain ⟨o1,c',o2,o3⟩:=clean_other hcl hci hl hev w1
      have w3':commL h (ev h w).2.1=some c:=w3
      rw [w3'] at o2
      cases o2
      obtain ⟨p1,p2,_⟩:=(writerL_some _ _ _ _).1 w1
      obtain ⟨n,n1,n2,n3⟩:=ver_index h (ev h i).2.2.1 (ev h w).2.1 c w w3' o3
      have hva:verAt h (versL h (ev h i).2.2.1) i=some n:=by
       rw [verAt_some]
       refine ⟨n1,by rw [n2,p2.2.2],fun q hq hh=>?_⟩
       obtain ⟨r1,r2,r3,r4,r5⟩:=ver_facts h (ev h i).2.2.1 q (by omega)
       have:vAt (versL h (ev h i).2.2.1) q=w:=wr_one hw (by omega) p1 r4 p2.1 (by rw [hh,p2.2.2])
       exact tx_ne h (ev h i).2.2.1 q n hq n1 (by rw [this,n2])
      have hnm:n < m:=src_mono h _ n m n1 m1 (by omega)
      exact over (n+1) (by omega) (fun x hx=>by unfold rdEdges;rw [hva];exact List.mem_append.2 (.inr hx)) hl
end Go.Proofs.YtdlcimfifkhllaaGreat
namespace Go.Proofs.YtdlcimfifkhllaaGreat
set_option maxRecDepth 100000
set_option linter.unusedVariables false
section
variable {α:Type}
abbrev Sp (α:Type):=Int × Int × α
def freeP (l:List (Sp α)) (left:List Int) (x:Int):Prop:=∀ s∈l,¬ (s.2.1=x∧s.1∈left)
def freeB (l:List (Sp α)) (left:List Int) (x:Int):Bool:=l.all fun s=>!(decide (s.2.1=x)&&decide (s.1∈left))
theorem free_iff (l:List (Sp α)) (left:List Int) (x:Int):freeB l left x=true↔freeP l left x:=by
 unfold freeB freeP
 rw [List.all_eq_true]
 constructor
 ·intro h s hs hh
  have:=h s hs
  simp [hh.1,hh.2] at this
 ·intro h s hs
  have:=h s hs
  simp only [Bool.not_eq_true',Bool.and_eq_false_iff,decide_eq_false_iff_not]
  by_cases h1:s.2.1=x
  ·exact .inr fun h2=>this ⟨h1,h2⟩
  ·exact .inl h1
def minI:List Int→Option Int
 | []=>none
 | x::l=>match minI l with
   | none=>some x
   | some y=>some (if x≤y then x else y)
theorem minI_none:∀ l:List Int,minI l=none↔l=[]
 | []=>by simp [minI]
 | x::l=>by
   rw [minI]
   cases minI l<;>simp
theorem minI_some:∀ (l:List Int) (x:Int),minI l=some x↔x∈l∧∀ y∈l,x≤y
 | [],x=>by simp [minI]
 | a::l,x=>by
   rw [minI]
   cases hm:minI l with
   | none =>
     have:=(minI_none l).1 hm
     subst this
     simp only [Option.some.injEq,List.mem_singleton]
     constructor
     ·rintro rfl;exact ⟨rfl,fun y hy=>by rw [hy];exact Int.le_refl _⟩
     ·intro h;exact h.1.symm
   | some b =>
     obtain ⟨h1,h2⟩:=(minI_some l b).1 hm
     simp only [Option.some.injEq]
     constructor
     ·rintro rfl
      by_cases hab:a≤b
      ·rw [if_pos hab]
       exact ⟨List.mem_cons_self ..,fun y hy=>by
        rcases List.mem_cons.1 hy with rfl | hy
        ·exact Int.le_refl _
        ·have:=h2 y hy;omega⟩
      ·rw [if_neg hab]
       exact ⟨List.mem_cons_of_mem _ h1,fun y hy=>by
        rcases List.mem_cons.1 hy with rfl | hy
        ·omega
        ·exact h2 y hy⟩
     ·intro ⟨g1,g2⟩
      have ga:=g2 a (List.mem_cons_self ..)
      have gb:=g2 b (List.mem_cons_of_mem _ h1)
      rcases List.mem_cons.1 g1 with rfl | g1
      ·rw [if_pos gb]
      ·have:=h2 x g1
       by_cases hab:a≤b
       ·rw [if_pos hab];omega
       ·rw [if_neg hab];omega
def bestL (l:List (Sp α)) (left:List Int):Option Int:=minI (left.filter fun x=>freeB l left x)
def orderF (l:List (Sp α)):Nat→List Int→Option (List Int)
 | 0,left=>if left=[] then some [] else none
 | n+1,left=>if left=[] then some [] else
   match bestL l left with
   | none=>none
   | some b=>match orderF l n (left.filter fun x=>decide (x≠b)) with
     | none=>none
     | some o=>some (b::o)
def orderL (nodes:List Int) (l:List (Sp α)):Option (List Int):=orderF l nodes.length nodes
theorem best_some (l:List (Sp α)) (left:List Int) (b:Int):bestL l left=some b↔(b∈left∧freeP l left b)∧∀ y∈left,freeP l left y→b≤y:=by
 unfold bestL
 rw [minI_some]
 simp only [List.mem_filter,free_iff]
 constructor
 ·intro ⟨h1,h2⟩;exact ⟨h1,fun y hy hf=>h2 y ⟨hy,hf⟩⟩
 ·intro ⟨h1,h2⟩;exact ⟨h1,fun y hy=>h2 y hy.1 hy.2⟩
theorem best_none (l:List (Sp α)) (left:List Int):bestL l left=none↔∀ y∈left,¬ freeP l left y:=by
 unfold bestL
 rw [minI_none,List.filter_eq_nil_iff]
 constructor
 ·intro h y hy hf;exact h y hy ((free_iff l left y).2 hf)
 ·intro h y hy hf;exact h y hy ((free_iff l left y).1 hf)
theorem filter_less (left:List Int) (b:Int) (hb:b∈left):(left.filter fun x=>decide (x≠b)).length < left.length:=by
 have h:=List.length_filter_lt_length_iff_exists (p:=fun x=>decide (x≠b)) (l:=left)
 exact h.2 ⟨b,hb,by simp⟩
theorem orderF_some (l:List (Sp α)):∀ (n:Nat) (left o:List Int),left.length≤n→orderF l n left=some o→o.Nodup∧(∀ x,x∈o↔x∈left)∧(∀ s∈l,s.1∈left→s.2.1∈left→∃ p q r,o=p++s.1::q++s.2.1::r)
 | 0,left,o,hl,h=>by
   have:left=[]:=List.length_eq_zero_iff.1 (by omega)
   subst this
   rw [orderF,if_pos rfl] at h
   cases h
   exact ⟨List.nodup_nil,fun x=>by simp,fun s _ h1=>by cases h1⟩
 | n+1,left,o,hl,h=>by
   rw [orderF] at h
   by_cases h0:left=[]
   ·rw [if_pos h0] at h
    cases h
    subst h0
    exact ⟨List.nodup_nil,fun x=>by simp,fun s _ h1=>by cases h1⟩
   ·rw [if_neg h0] at h
    cases hb:bestL l left with
    | none=>rw [hb] at h;cases h
    | some b =>
      rw [hb] at h
      simp only at h
      obtain ⟨⟨b1,b2⟩,b3⟩:=(best_some l left b).1 hb
      cases hr:orderF l n (left.filter fun x=>decide (x≠b)) with
      | none=>rw [hr] at h;cases h
      | some o' =>
        rw [hr] at h
        cases h
        have hlt:=filter_less left b b1
        obtain ⟨i1,i2,i3⟩:=orderF_some l n _ o' (by omega) hr
        have hbo:b ∉ o':=fun hh=>by
         have:=(i2 b).1 hh
         simp at this
        refine ⟨List.nodup_cons.2 ⟨hbo,i1⟩,fun x=>?_,fun s hs h1 h2=>?_⟩
        ·rw [List.mem_cons,i2 x,List.mem_filter]
         constructor
         ·rintro (rfl | h)
          ·exact b1
          ·exact h.1
         ·intro hx
          by_cases hxb:x=b
          ·exact .inl hxb
          ·exact .inr ⟨hx,by simpa using hxb⟩
        ·have hsb:s.2.1≠b:=fun he=>b2 s hs ⟨he,h1⟩
         have m2:s.2.1∈left.filter fun x=>decide (x≠b):=List.mem_filter.2 ⟨h2,by simpa using hsb⟩
         by_cases hfb:s.1=b
         ·obtain ⟨q,r,hqr⟩:=List.append_of_mem ((i2 s.2.1).2 m2)
          exact ⟨[],q,r,by rw [hqr,hfb];rfl⟩
         ·have m1:s.1∈left.filter fun x=>decide (x≠b):=List.mem_filter.2 ⟨h1,by simpa using hfb⟩
          obtain ⟨p,q,r,hpq⟩:=i3 s hs m1 m2
          exact ⟨b::p,q,r,by rw [hpq];rfl⟩
theorem orderF_none (l:List (Sp α)):∀ (n:Nat) (left:List Int),left.length≤n→orderF l n left=none→∃ core:List Int,core≠[]∧∀ y∈core,∃ s∈l,s.2.1=y∧s.1∈core
 | 0,left,hl,h=>by
   have:left=[]:=List.length_eq_zero_iff.1 (by omega)
   subst this
   rw [orderF,if_pos rfl] at h
   cases h
 | n+1,left,hl,h=>by
   rw [orderF] at h
   by_cases h0:left=[]
   ·rw [if_pos h0] at h;cases h
   ·rw [if_neg h0] at h
    cases hb:bestL l left with
    | none =>
      have hn:=(best_none l left).1 hb
      refine ⟨left,h0,fun y hy=>?_⟩
      have:=hn y hy
      unfold freeP at this
      have:=Classical.not_forall.1 this
      obtain ⟨s,hs⟩:=this
      have:=Classical.not_imp.1 hs
      exact ⟨s,this.1,(Classical.not_not.1 this.2).1,(Classical.not_not.1 this.2).2⟩
    | some b =>
      rw [hb] at h
      simp only at h
      have hb1:=((best_some l left b).1 hb).1.1
      have hlt:=filter_less left b hb1
      cases hr:orderF l n (left.filter fun x=>decide (x≠b)) with
      | none=>exact orderF_none l n _ (by omega) hr
      | some o'=>rw [hr] at h;cases h
def Walk (l:List (Sp α)):Nat→Int→Int→Prop
 | 0,x,y=>x=y
 | n+1,x,y=>∃ s,s∈l∧Walk l n s.2.1 y∧x=s.1
theorem Walk.nil {l:List (Sp α)} (x:Int):Walk l 0 x x:=rfl
theorem Walk.cons {l:List (Sp α)} (s:Sp α) (n:Nat) (y:Int) (hs:s∈l) (h:Walk l n s.2.1 y):Walk l (n+1) s.1 y:=⟨s,hs,h,rfl⟩
theorem Walk.elim {l:List (Sp α)} {motive:(n:Nat)→(x y:Int)→Walk l n x y→Prop} (nil:∀ x,motive 0 x x (Walk.nil x)) (cons:∀ (s:Sp α) (n:Nat) (y:Int) (hs:s∈l) (h:Walk l n s.2.1 y),motive n s.2.1 y h→motive (n+1) s.1 y (Walk.cons s n y hs h)) {n:Nat} {x y:Int} (h:Walk l n x y):motive n x y h:=by
 induction n generalizing x with
 | zero=>have e:x=y:=h
         subst e;exact nil x
 | succ n ih =>
   obtain ⟨s,hs,h1,rfl⟩:=h
   exact cons s n y hs h1 (ih h1)
theorem Walk.append {l:List (Sp α)} {n m:Nat} {x y z:Int} (h:Walk l n x y) (k:Walk l m y z):Walk l (n+m) x z:=by
 induction h using Walk.elim with
 | nil x=>rw [Nat.zero_add];exact k
 | cons s n y hs _ ih=>rw [show n+1+m=(n+m)+1 by omega];exact .cons s _ _ hs (ih k)
def isStart (l:List (Sp α)) (x:Int):Prop:=∃ s∈l,s.1=x
theorem Walk.start {l:List (Sp α)} {n:Nat} {x y:Int} (h:Walk l (n+1) x y):isStart l x:=by
 obtain ⟨s,hs,_,rfl⟩:=h
 exact ⟨s,hs,rfl⟩
theorem pigeon:∀ (S:List Int) (f:Nat→Int),(∀ i,i≤S.length→f i∈S)→∃ i j,i < j∧j≤S.length∧f i=f j
 | [],f,h=>by have:=h 0 (by simp);cases this
 | S,f,h=>by
   apply Classical.byContradiction
   intro hno
   have hinj:∀ i j,i≤S.length→j≤S.length→f i=f j→i=j:=fun i j hi hj he=>by
    rcases Nat.lt_trichotomy i j with hh | hh | hh
    ·exact absurd ⟨i,j,hh,hj,he⟩ hno
    ·exact hh
    ·exact absurd ⟨j,i,hh,hi,he.symm⟩ hno
   have hnd:((List.range (S.length+1)).map f).Nodup:=by
    rw [List.nodup_iff_pairwise_ne,List.pairwise_map]
    refine List.Pairwise.imp_of_mem ?_ List.pairwise_lt_range
    intro a b ha hb hab he
    have:=hinj a b (by have:=List.mem_range.1 ha;omega) (by have:=List.mem_range.1 hb;omega) he
    omega
   have hsub:((List.range (S.length+1)).map f) ⊆ S:=fun x hx=>by
    obtain ⟨i,hi,rfl⟩:=List.mem_map.1 hx
    exact h i (by have:=List.mem_range.1 hi;omega)
   have:=List.Nodup.length_le_of_subset hnd hsub
   simp at this
   omega
end
end Go.Proofs.YtdlcimfifkhllaaGreat
namespace Go.Proofs.YtdlcimfifkhllaaGreat
set_option maxRecDepth 100000
set_option linter.unusedVariables false
section
variable {α:Type}
def chainB:List (Sp α)→Int→Int→Prop
 | [],a,b=>a=b
 | s::r,a,b=>s.1=a∧chainB r s.2.1 b
def closedP (r:List (Sp α)):Prop:=∃ s r',r=s::r'∧chainB r s.1 s.1
theorem chain_walk (l:List (Sp α)):∀ (r:List (Sp α)) (a b:Int),(∀ s∈r,s∈l)→chainB r a b→Walk l r.length a b
 | [],a,b,_,h=>by rw [chainB] at h;rw [h];exact .nil b
 | s::r,a,b,hs,h=>by
   rw [chainB] at h
   rw [← h.1]
   exact .cons s _ _ (hs s (List.mem_cons_self ..)) (chain_walk l r s.2.1 b (fun x hx=>hs x (List.mem_cons_of_mem _ hx)) h.2)
theorem closed_walk {l r:List (Sp α)} (h:closedP r) (hs:∀ s∈r,s∈l):∃ a,1≤r.length∧Walk l r.length a a:=by
 obtain ⟨s,r',he,hc⟩:=h
 exact ⟨s.1,by rw [he];simp,chain_walk l r _ _ hs hc⟩
def insI (k:Int):List Int→List Int
 | []=>[k]
 | x::l=>if x < k then x::insI k l else if x=k then x::l else k::x::l
def startsF:List Int→List (Sp α)→List Int
 | acc,[]=>acc
 | acc,s::l=>startsF (insI s.1 acc) l
def startsL (l:List (Sp α)):List Int:=startsF [] l
theorem insI_mem (k:Int):∀ (l:List Int) (y:Int),y∈insI k l↔y=k∨y∈l
 | [],y=>by rw [insI];simp
 | x::l,y=>by
   rw [insI]
   by_cases h1:x < k
   ·rw [if_pos h1,List.mem_cons,insI_mem k l y,List.mem_cons]
    constructor
    ·rintro (h | h | h)
     ·exact .inr (.inl h)
     ·exact .inl h
     ·exact .inr (.inr h)
    ·rintro (h | h | h)
     ·exact .inr (.inl h)
     ·exact .inl h
     ·exact .inr (.inr h)
   ·rw [if_neg h1]
    by_cases h2:x=k
    ·rw [if_pos h2,List.mem_cons]
     constructor
     ·intro h;exact .inr h
     ·rintro (h | h)
      ·exact .inl (by rw [h,h2])
      ·exact h
    ·rw [if_neg h2,List.mem_cons]
theorem insI_sorted (k:Int):∀ l:List Int,l.Pairwise (·< ·)→(insI k l).Pairwise (·< ·)
 | [],_=>by rw [insI];exact List.pairwise_singleton ..
 | x::l,h=>by
   rw [insI]
   rw [List.pairwise_cons] at h
   by_cases h1:x < k
   ·rw [if_pos h1,List.pairwise_cons]
    refine ⟨fun y hy=>?_,insI_sorted k l h.2⟩
    rcases (insI_mem k l y).1 hy with rfl | hy
    ·exact h1
    ·exact h.1 y hy
   ·rw [if_neg h1]
    by_cases h2:x=k
    ·rw [if_pos h2,List.pairwise_cons];exact h
    ·rw [if_neg h2,List.pairwise_cons]
     refine ⟨fun y hy=>?_,List.pairwise_cons.2 h⟩
     rcases List.mem_cons.1 hy with rfl | hy
     ·omega
     ·have:=h.1 y hy;omega
theorem startsF_mem (y:Int):∀ (l:List (Sp α)) (acc:List Int),y∈startsF acc l↔y∈acc∨isStart l y
 | [],acc=>by rw [startsF];unfold isStart;simp
 | s::l,acc=>by
   rw [startsF,startsF_mem y l,insI_mem]
   unfold isStart
   constructor
   ·rintro ((h | h) | ⟨z,hz,h⟩)
    ·exact .inr ⟨s,List.mem_cons_self ..,h.symm⟩
    ·exact .inl h
    ·exact .inr ⟨z,List.mem_cons_of_mem _ hz,h⟩
   ·rintro (h | ⟨z,hz,h⟩)
    ·exact .inl (.inr h)
    ·rcases List.mem_cons.1 hz with rfl | hz
     ·exact .inl (.inl h.symm)
     ·exact .inr ⟨z,hz,h⟩
theorem starts_mem (l:List (Sp α)) (y:Int):y∈startsL l↔isStart l y:=by unfold startsL;rw [startsF_mem];simp
theorem startsF_sorted:∀ (l:List (Sp α)) (acc:List Int),acc.Pairwise (·< ·)→(startsF acc l).Pairwise (·< ·)
 | [],acc,h=>h
 | s::l,acc,h=>startsF_sorted l _ (insI_sorted s.1 acc h)
theorem starts_sorted (l:List (Sp α)):(startsL l).Pairwise (·< ·):=startsF_sorted l [] List.Pairwise.nil
def wayB (l:List (Sp α)) (to:Int):Nat→Int→Bool
 | 0,x=>decide (x=to)
 | n+1,x=>l.any fun s=>decide (s.1=x)&&wayB l to n s.2.1
theorem way_iff (l:List (Sp α)) (to:Int):∀ (n:Nat) (x:Int),wayB l to n x=true↔Walk l n x to
 | 0,x=>by
   rw [wayB,decide_eq_true_eq]
   constructor
   ·rintro rfl;exact .nil x
   ·intro h;cases h;rfl
 | n+1,x=>by
   rw [wayB,List.any_eq_true]
   constructor
   ·rintro ⟨s,hs,h⟩
    rw [Bool.and_eq_true,decide_eq_true_eq,way_iff l to n] at h
    rw [← h.1]
    exact .cons s n to hs h.2
   ·intro h
    obtain ⟨s,hs,h,rfl⟩:=h
    exact ⟨s,hs,by rw [Bool.and_eq_true,decide_eq_true_eq,way_iff l to n];exact ⟨rfl,h⟩⟩
def ringAt (l:List (Sp α)) (n:Nat):Option Int:=(startsL l).find? fun s=>wayB l s n s
def ringN (l:List (Sp α)):Option Nat:=fi (fun n=>(ringAt l (n+1)).isSome) (startsL l).length
def ringPath (l:List (Sp α)) (to:Int):Nat→Int→List (Sp α)
 | 0,_=>[]
 | n+1,x=>match l.find? fun s=>decide (s.1=x)&&wayB l to n s.2.1 with
   | none=>[]
   | some s=>s::ringPath l to n s.2.1
def ringL (l:List (Sp α)):Option (List (Sp α)) :=
 match ringN l with
 | none=>none
 | some n=>match ringAt l (n+1) with
   | none=>none
   | some s=>some (ringPath l s (n+1) s)
theorem path_ok (l:List (Sp α)) (to:Int):∀ (n:Nat) (x:Int),Walk l n x to→chainB (ringPath l to n x) x to∧(ringPath l to n x).length=n∧∀ s∈ringPath l to n x,s∈l
 | 0,x,h=>by cases h;exact ⟨rfl,rfl,fun s hs=>by cases hs⟩
 | n+1,x,h=>by
   rw [ringPath]
   cases hf:l.find? fun s=>decide (s.1=x)&&wayB l to n s.2.1 with
   | none =>
     exfalso
     obtain ⟨s,hs,h,rfl⟩:=h
     have:=List.find?_eq_none.1 hf s hs
     rw [Bool.and_eq_true,decide_eq_true_eq,way_iff l to n] at this
     exact this ⟨rfl,h⟩
   | some s =>
     have h1:=List.find?_some hf
     have h2:=List.mem_of_find?_eq_some hf
     simp only [Bool.and_eq_true,decide_eq_true_eq,way_iff l to n] at h1
     obtain ⟨i1,i2,i3⟩:=path_ok l to n s.2.1 h1.2
     refine ⟨⟨h1.1,i1⟩,by simp only [List.length_cons,i2],fun z hz=>?_⟩
     rcases List.mem_cons.1 hz with rfl | hz
     ·exact h2
     ·exact i3 z hz
theorem ring_at (l:List (Sp α)) (n:Nat) (s:Int) (h:ringAt l n=some s):s∈startsL l∧Walk l n s s∧∀ y∈startsL l,Walk l n y y→s≤y:=by
 unfold ringAt at h
 obtain ⟨h1,h2⟩:=List.find?_eq_some_iff_append.1 h
 obtain ⟨p,q,hpq,hno⟩:=h2
 refine ⟨by rw [hpq];simp,(way_iff _ _ _ _).1 h1,fun y hy hwy=>?_⟩
 rw [hpq] at hy
 rcases List.mem_append.1 hy with hy | hy
 ·have:=hno y hy
  rw [(way_iff l y n y).2 hwy] at this
  cases this
 ·rcases List.mem_cons.1 hy with rfl | hy
  ·exact Int.le_refl _
  ·have hs:=starts_sorted l
   rw [hpq] at hs
   have:=(List.pairwise_append.1 hs).2.1
   have:=(List.pairwise_cons.1 this).1 y hy
   omega
theorem ring_some (l r:List (Sp α)) (h:ringL l=some r):closedP r∧(∀ s∈r,s∈l)∧(∀ n s,1≤n→n≤(startsL l).length→Walk l n s s→r.length≤n):=by
 unfold ringL at h
 cases hn:ringN l with
 | none=>rw [hn] at h;cases h
 | some n =>
   rw [hn] at h
   simp only at h
   cases ha:ringAt l (n+1) with
   | none=>rw [ha] at h;cases h
   | some s =>
     rw [ha] at h
     cases h
     obtain ⟨a1,a2,a3⟩:=ring_at l (n+1) s ha
     obtain ⟨p1,p2,p3⟩:=path_ok l s (n+1) s a2
     refine ⟨?_,p3,fun m y hm hml hw=>?_⟩
     ·cases hr:ringPath l s (n+1) s with
      | nil=>rw [hr] at p2;cases p2
      | cons z r' =>
        rw [hr] at p1
        have hz:z.1=s:=p1.1
        exact ⟨z,r',rfl,by rw [hz];exact p1⟩
     ·rw [p2]
      have hno:=((fi_some _ _ _).1 hn).2.2
      rcases Nat.lt_or_ge (m - 1) n with hh | hh
      ·exfalso
       have:=hno (m - 1) hh
       rw [show m - 1+1=m by omega] at this
       have hst:y∈startsL l:=(starts_mem l y).2 (by rw [show m=m - 1+1 by omega] at hw;exact hw.start)
       unfold ringAt at this
       rw [Option.isSome_eq_false_iff,Option.isNone_iff_eq_none,List.find?_eq_none] at this
       exact this y hst ((way_iff _ _ _ _).2 hw)
      ·omega
theorem ring_found (l:List (Sp α)) (n:Nat) (s:Int) (h1:1≤n) (h2:n≤(startsL l).length) (hw:Walk l n s s):∃ r,ringL l=some r:=by
 have hst:s∈startsL l:=(starts_mem l s).2 (by rw [show n=n - 1+1 by omega] at hw;exact hw.start)
 have hat:∀ m,(ringAt l (m+1)).isSome=true↔∃ y∈startsL l,Walk l (m+1) y y:=fun m=>by
  unfold ringAt
  rw [List.find?_isSome]
  constructor
  ·rintro ⟨y,hy,h⟩;exact ⟨y,hy,(way_iff _ _ _ _).1 h⟩
  ·rintro ⟨y,hy,h⟩;exact ⟨y,hy,(way_iff _ _ _ _).2 h⟩
 unfold ringL
 cases hn:ringN l with
 | none =>
   exfalso
   have:=(fi_none _ _).1 hn (n - 1) (by omega)
   rw [show n - 1+1=n by omega] at this
   have h':=(hat (n - 1)).2 ⟨s,hst,by rw [show n - 1+1=n by omega];exact hw⟩
   rw [show n - 1+1=n by omega,this] at h'
   cases h'
 | some m =>
   simp only
   have:=((fi_some _ _ _).1 hn).2.1
   cases ha:ringAt l (m+1) with
   | none=>rw [ha] at this;cases this
   | some y=>exact ⟨_,rfl⟩
theorem Walk.along {l:List (Sp α)} {n:Nat} {x y:Int} (h:Walk l n x y):∃ f:Nat→Int,f 0=x∧f n=y∧∀ i,i < n→∃ s∈l,s.1=f i∧s.2.1=f (i+1):=by
 induction h using Walk.elim with
 | nil x=>exact ⟨fun _=>x,rfl,rfl,fun i hi=>by omega⟩
 | cons s n y hs _ ih =>
   obtain ⟨f,f0,fn,hf⟩:=ih
   refine ⟨fun i=>match i with | 0=>s.1 | i+1=>f i,rfl,fn,fun i hi=>?_⟩
   match i with
   | 0=>exact ⟨s,hs,rfl,f0.symm⟩
   | i+1=>exact hf i (by omega)
theorem walk_part {l:List (Sp α)} {f:Nat→Int} {n:Nat} (hf:∀ i,i < n→∃ s∈l,s.1=f i∧s.2.1=f (i+1)):∀ (d i:Nat),i+d≤n→Walk l d (f i) (f (i+d))
 | 0,i,_=>.nil _
 | d+1,i,h=>by
   obtain ⟨s,hs,h1,h2⟩:=hf i (by omega)
   have:=walk_part hf d (i+1) (by omega)
   rw [← h2,show i+1+d=i+(d+1) by omega] at this
   rw [← h1]
   exact .cons s d _ hs this
theorem walk_twice (l:List (Sp α)) {n:Nat} {f:Nat→Int} (hn:(startsL l).length < n) (hf:∀ i,i < n→∃ s∈l,s.1=f i∧s.2.1=f (i+1)):∃ i j,i < j∧j≤(startsL l).length∧f i=f j:=by
 refine pigeon (startsL l) f fun i hi=>?_
 obtain ⟨s,hs,h1,_⟩:=hf i (by omega)
 exact (starts_mem l _).2 ⟨s,hs,h1⟩
theorem ring_short (l:List (Sp α)) (n:Nat) (s:Int) (h1:1≤n) (hw:Walk l n s s):∃ m y,1≤m∧m≤n∧m≤(startsL l).length∧Walk l m y y:=by
 rcases Nat.lt_or_ge (startsL l).length n with hlt | hge
 ·obtain ⟨f,f0,fn,hf⟩:=hw.along
  obtain ⟨i,j,hij,hj,he⟩:=walk_twice l hlt hf
  have:=walk_part hf (j - i) i (by omega)
  rw [show i+(j - i)=j by omega,← he] at this
  exact ⟨j - i,f i,by omega,by omega,by omega,this⟩
 ·exact ⟨n,s,h1,Nat.le_refl _,hge,hw⟩
theorem ring_of_walk (l:List (Sp α)) (n:Nat) (s:Int) (h1:1≤n) (hw:Walk l n s s):∃ r,ringL l=some r∧r.length≤n:=by
 obtain ⟨m,y,g1,g2,g3,g4⟩:=ring_short l n s h1 hw
 obtain ⟨r,hr⟩:=ring_found l m y g1 g3 g4
 exact ⟨r,hr,by have:=(ring_some l r hr).2.2 m y g1 g3 g4;omega⟩
theorem ring_of_core (l:List (Sp α)) (core:List Int) (hne:core≠[]) (hc:∀ y∈core,∃ s∈l,s.2.1=y∧s.1∈core):∃ r,ringL l=some r:=by
 obtain ⟨y0,hy0⟩:=List.exists_mem_of_ne_nil core hne
 have hback:∀ n,∃ z,z∈core∧Walk l n z y0:=by
  intro n
  induction n with
  | zero=>exact ⟨y0,hy0,.nil y0⟩
  | succ n ih =>
    obtain ⟨z,hz,hw⟩:=ih
    obtain ⟨s,hs,h1,h2⟩:=hc z hz
    exact ⟨s.1,h2,.cons s n y0 hs (by rw [h1];exact hw)⟩
 obtain ⟨z,hz,hw⟩:=hback ((startsL l).length+1)
 obtain ⟨f,f0,fn,hf⟩:=hw.along
 obtain ⟨i,j,hij,hj,he⟩:=walk_twice l (by omega) hf
 have:=walk_part hf (j - i) i (by omega)
 rw [show i+(j - i)=j by omega,← he] at this
 exact ring_found l (j - i) (f i) (by omega) (by omega) this
theorem before_idx (o p q r:List Int) (a b:Int) (hn:o.Nodup) (h:o=p++a::q++b::r):o.idxOf a < o.idxOf b:=by
 rw [h] at hn ⊢
 rw [List.append_assoc] at hn ⊢
 have h1:=(List.nodup_append.1 hn)
 have ha:a ∉ p:=fun hh=>h1.2.2 a hh a (by simp) rfl
 have hb:b ∉ p:=fun hh=>h1.2.2 b hh b (by simp) rfl
 have h2:=List.nodup_cons.1 (show (a::(q++b::r)).Nodup from by simpa using h1.2.1)
 have hab:a≠b:=fun hh=>h2.1 (by rw [hh];simp)
 rw [List.cons_append,List.idxOf_append (a:=a) (l₁:=p),if_neg ha,List.idxOf_append (a:=b) (l₁:=p),if_neg hb,List.idxOf_cons_self,List.idxOf_cons (y:=b),beq_eq_false_iff_ne.2 hab,cond_false]
 omega
theorem order_no_walk (l:List (Sp α)) (nodes o:List Int) (h:orderL nodes l=some o) (hall:∀ s∈l,s.1∈nodes∧s.2.1∈nodes):∀ n x y,1≤n→Walk l n x y→o.idxOf x < o.idxOf y:=by
 obtain ⟨h1,h2,h3⟩:=orderF_some l nodes.length nodes o (Nat.le_refl _) h
 have hstep:∀ s∈l,o.idxOf s.1 < o.idxOf s.2.1:=fun s hs=>by
  obtain ⟨p,q,r,hp⟩:=h3 s hs (hall s hs).1 (hall s hs).2
  exact before_idx o p q r _ _ h1 hp
 intro n
 induction n with
 | zero=>intro x y h0;omega
 | succ n ih =>
   intro x y _ hw
   obtain ⟨s,hs,hw,rfl⟩:=hw
   have a1:=hstep s hs
   rcases Nat.eq_zero_or_pos n with hn | hn
   ·subst hn
    cases hw
    exact a1
   ·have:=ih s.2.1 y hn hw
    omega
end
end Go.Proofs.YtdlcimfifkhllaaGreat
