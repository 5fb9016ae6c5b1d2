/-
  What cartoucheref08.Last answers. How many may be wrong: in lists. What a loop that looks for a transaction knows: in lists. Rows of numbers, cut and joined; wh
-/
import Derived.Test.YtiihegldhnlleaaGreatCL0b
import Derived.Laws.StructEq
import Derived.Laws.OwnMore
import Derived.Maps.OwnSet
import Derived.Maps.OwnOps
import Derived.Maps.OwnIn
namespace Go.Proofs.YtiihegldhnlleaaGreat
set_option maxRecDepth 100000
open Go.RowKit
set_option linter.unusedVariables false
attribute [local go_sem] ba_size
set_option maxHeartbeats 2000000 in
theorem rlast_any (h:List Ev) (v:Value) (w:World) (hT:IsEvs w v h) (t:Int) (key:List UInt8) (before:Int) :
 Calls Tryz.prog 59 #[v,.int .i64 t,.string ⟨key.toArray⟩,.int .i64 before] w fun e w'=>e=.returned (.int .i64 (oI (lastL h t key before)))∧Below w.heap.size w w':=by
 obtain ⟨a,cap,rfl,h1,h2,h3,HC⟩:=hT.reads
 obtain ⟨n,hn⟩:∃ n,h.length=n:=⟨_,rfl⟩
 have HN:Hid (h.length=n):=hn
 rw [hn] at h1 h3 ⊢
 clear hT hn
 go_enter Tryz.func59,Tryz.ntmps59
 go_wp2_with fail
 go_loopw [9,10] (fun o i wr=>∃ k:Nat,k≤n∧(k=0∨(k:Int)≤before)∧o=.int .i64 (oI (lastN h t key k))∧i=.int .i64 k∧Below w.heap.size w wr) (fun _ i _=>n - (intOf i).toNat)
 case atStart=>exact ⟨0,Nat.zero_le _,Or.inl rfl,rfl,rfl,Below.refl _ _⟩
 case round =>
  obtain ⟨k,hk,hkb,rfl,rfl,hbw⟩:=hrel
  by_cases hlt:k < n
  ·by_cases hlb:(k:Int) < before
   ·have hk1:k < h.length:=by have:=HN.out;omega
    obtain ⟨bb,off,rfl,HQ⟩:=HC.out (by omega)
    obtain ⟨c0,c1,c2,c3⟩:=HQ.out k hk1 _ hbw
    obtain ⟨⟨x0,x1,x2,x3⟩,hx⟩:∃ x,ev h k=x:=⟨_,rfl⟩
    have HX:Hid (ev h k=(x0,x1,x2,x3)):=hx
    rw [hx] at c0 c1 c2 c3
    simp only at c0 c1 c2 c3
    clear hx
    by_cases d:x0=3
    ·have e1:(x0==3)=true:=by rw [d];rfl
     by_cases d4:x1=t
     ·have e4:(x1==t)=true:=by rw [d4];exact beq_self_eq_true _
      by_cases d5:x2=key
      ·have e5:(x2==key)=true:=by rw [d5];exact beq_self_eq_true _
       have HS:Hid (lastN h t key (k+1)=some k):=by
        show la (isWrT h t key) (k+1)=_
        rw [la,show isWrT h t key k=true by show decide _=true;rw [HX.out];exact decide_eq_true (⟨d,d4,d5⟩)];rfl
       go_wp2_with fail
       refine ⟨?relA,?meaA⟩
       case relA=>exact ⟨k+1,by omega,by omega,by rw [HS.out]<;>rfl,by first | go_num | simp,hbw⟩
       case meaA=>simp [intOf];omega
      ·have e5:(x2==key)=false:=beq_eq_false_iff_ne.2 d5
       have HS:Hid (lastN h t key (k+1)=lastN h t key k):=by
        show la (isWrT h t key) (k+1)=_
        rw [la,show isWrT h t key k=false by show decide _=false;rw [HX.out];exact decide_eq_false (fun hh=>d5 hh.2.2)];rfl
       go_wp2_with fail
       refine ⟨?relB,?meaB⟩
       case relB=>exact ⟨k+1,by omega,by omega,by rw [HS.out]<;>rfl,by first | go_num | simp,hbw⟩
       case meaB=>simp [intOf];omega
     ·have e4:(x1==t)=false:=beq_eq_false_iff_ne.2 d4
      have HS:Hid (lastN h t key (k+1)=lastN h t key k):=by
       show la (isWrT h t key) (k+1)=_
       rw [la,show isWrT h t key k=false by show decide _=false;rw [HX.out];exact decide_eq_false (fun hh=>d4 hh.2.1)];rfl
      go_wp2_with fail
      refine ⟨?relC,?meaC⟩
      case relC=>exact ⟨k+1,by omega,by omega,by rw [HS.out]<;>rfl,by first | go_num | simp,hbw⟩
      case meaC=>simp [intOf];omega
    ·have e1:(x0==3)=false:=beq_eq_false_iff_ne.2 d
     have HS:Hid (lastN h t key (k+1)=lastN h t key k):=by
      show la (isWrT h t key) (k+1)=_
      rw [la,show isWrT h t key k=false by show decide _=false;rw [HX.out];exact decide_eq_false (fun hh=>d hh.1)];rfl
     go_wp2_with fail
     refine ⟨?relD,?meaD⟩
     case relD=>exact ⟨k+1,by omega,by omega,by rw [HS.out]<;>rfl,by first | go_num | simp,hbw⟩
     case meaD=>simp [intOf];omega
   ·have HR:Hid (lastL h t key before=lastN h t key k):=last_end h t key before k (by have:=HN.out;omega) hkb (Or.inr (by omega))
    go_wp2_with fail
    go_ret
    exact ⟨by rw [HR.out];rfl,hbw⟩
  ·have HR:Hid (lastL h t key before=lastN h t key k):=last_end h t key before k (by have:=HN.out;omega) hkb (Or.inl (by have:=HN.out;omega))
   go_wp2_with fail
   go_ret
   exact ⟨by rw [HR.out];rfl,hbw⟩
theorem bads_len (h:List Ev):(badsL h).length≤h.length:=by
 unfold badsL
 have:=List.length_filterMap_le (fun i=>if (atL h i).1=0 then none else some (atL h i)) (List.range h.length)
 rw [List.length_range] at this
 exact this
def FdI (h:List Ev) (t:Int) (k:Nat) (L:Lf) (th:Bool):Prop :=
 endL h t k=none∧((fstL h t k=none∧th=false∧L=(0,0,0,false))∨∃ f,fstL h t k=some f∧th=true∧L=(t,f,h.length,false))
theorem fd_zero (h:List Ev) (t:Int):FdI h t 0 (0,0,0,false) false:=⟨rfl,Or.inl ⟨rfl,rfl,rfl⟩⟩
theorem endL_skip (h:List Ev) (t:Int) (k:Nat) (he:endL h t k=none) (hn:¬ endB (ev h k) t):endL h t (k+1)=none:=by
 rw [endL_none] at he ⊢
 intro j hj
 rcases Nat.lt_or_ge j k with h' | h'
 ·exact he j h'
 ·obtain rfl:j=k:=by omega
  exact hn
theorem fstL_old (h:List Ev) (t:Int) (k f:Nat) (he:fstL h t k=some f):fstL h t (k+1)=some f:=by
 rw [fstL_some] at he ⊢
 exact ⟨by omega,he.2⟩
theorem fstL_new (h:List Ev) (t:Int) (k:Nat) (he:fstL h t k=none) (hx:(ev h k).2.1=t):fstL h t (k+1)=some k:=by
 rw [fstL_none] at he
 rw [fstL_some]
 exact ⟨by omega,hx,he⟩
theorem fstL_skip (h:List Ev) (t:Int) (k:Nat) (he:fstL h t k=none) (hx:(ev h k).2.1≠t):fstL h t (k+1)=none:=by
 rw [fstL_none] at he ⊢
 intro j hj
 rcases Nat.lt_or_ge j k with h' | h'
 ·exact he j h'
 ·obtain rfl:j=k:=by omega
  exact hx
theorem fstL_mono (h:List Ev) (t:Int) (k n f:Nat) (hk:k≤n) (he:fstL h t k=some f):fstL h t n=some f:=by
 rw [fstL_some] at he ⊢
 exact ⟨by omega,he.2⟩
theorem fd_skip {h:List Ev} {t:Int} {k:Nat} {L:Lf} {th:Bool} (hf:FdI h t k L th) (hx:(ev h k).2.1≠t):FdI h t (k+1) L th:=by
 obtain ⟨h1,h2⟩:=hf
 refine ⟨endL_skip h t k h1 (fun hh=>hx hh.1),?_⟩
 rcases h2 with ⟨a,b,c⟩ | ⟨f,a,b,c⟩
 ·exact Or.inl ⟨fstL_skip h t k a hx,b,c⟩
 ·exact Or.inr ⟨f,fstL_old h t k f a,b,c⟩
theorem fd_new {h:List Ev} {t:Int} {k:Nat} {L:Lf} (hf:FdI h t k L false) (hx:(ev h k).2.1=t) (hn:¬ ((ev h k).1=4∨(ev h k).1=5)):FdI h t (k+1) (t,k,h.length,false) true:=by
 obtain ⟨h1,h2⟩:=hf
 refine ⟨endL_skip h t k h1 (fun hh=>hn hh.2),?_⟩
 rcases h2 with ⟨a,b,c⟩ | ⟨f,a,b,c⟩
 ·exact Or.inr ⟨k,fstL_new h t k a hx,rfl,rfl⟩
 ·cases b
theorem fd_old {h:List Ev} {t:Int} {k:Nat} {L:Lf} (hf:FdI h t k L true) (hn:¬ ((ev h k).1=4∨(ev h k).1=5)):FdI h t (k+1) L true:=by
 obtain ⟨h1,h2⟩:=hf
 refine ⟨endL_skip h t k h1 (fun hh=>hn hh.2),?_⟩
 rcases h2 with ⟨a,b,c⟩ | ⟨f,a,b,c⟩
 ·cases b
 ·exact Or.inr ⟨f,fstL_old h t k f a,rfl,c⟩
theorem fd_end {h:List Ev} {t:Int} {k:Nat} (he:endL h t k=none) (hk:k < h.length) (hx:(ev h k).2.1=t) (hn:(ev h k).1=4∨(ev h k).1=5) (f:Nat) (hf:fstL h t (k+1)=some f):findL h t=some (t,f,k,decide ((ev h k).1=4)):=by
 unfold findL
 rw [fstL_mono h t (k+1) h.length f (by omega) hf,(endL_some h t h.length k).2 ⟨hk,⟨hx,hn⟩,(endL_none h t k).1 he⟩]
theorem fd_end_new {h:List Ev} {t:Int} {k:Nat} {L:Lf} (hf:FdI h t k L false) (hk:k < h.length) (hx:(ev h k).2.1=t) (hn:(ev h k).1=4∨(ev h k).1=5):findP h t=((t,k,k,decide ((ev h k).1=4)),true):=by
 obtain ⟨h1,h2⟩:=hf
 rcases h2 with ⟨a,b,c⟩ | ⟨f,a,b,c⟩
 ·exact findP_of (fd_end h1 hk hx hn k (fstL_new h t k a hx))
 ·cases b
theorem fd_end_old {h:List Ev} {t:Int} {k:Nat} {L:Lf} (hf:FdI h t k L true) (hk:k < h.length) (hx:(ev h k).2.1=t) (hn:(ev h k).1=4∨(ev h k).1=5):findP h t=((L.1,L.2.1,k,decide ((ev h k).1=4)),true):=by
 obtain ⟨h1,h2⟩:=hf
 rcases h2 with ⟨a,b,c⟩ | ⟨f,a,b,c⟩
 ·cases b
 ·rw [c]
  exact findP_of (fd_end h1 hk hx hn f (fstL_old h t k f a))
theorem fd_done {h:List Ev} {t:Int} {L:Lf} {th:Bool} (hf:FdI h t h.length L th):findP h t=(L,th):=by
 obtain ⟨h1,h2⟩:=hf
 unfold findP findL
 rcases h2 with ⟨a,b,c⟩ | ⟨f,a,b,c⟩
 ·rw [a,b,c]
 ·rw [a,h1,b,c]
end Go.Proofs.YtiihegldhnlleaaGreat
namespace Go.Proofs.YtiihegldhnlleaaGreat
set_option maxRecDepth 100000
open Go.RowKit
set_option linter.unusedVariables false
def iV (K:List Int):List Value:=K.map (Value.int .i64)
theorem iV_rec (K:List Int):recV intV K=iV K:=by
 unfold recV iV
 induction K with
 | nil=>rfl
 | cons x r ih=>rw [List.flatMap_cons,ih];rfl
theorem iV_length (K:List Int):(iV K).length=K.length:=by unfold iV;rw [List.length_map]
theorem iV_app (K M:List Int):iV (K++M)=iV K++iV M:=by unfold iV;rw [List.map_append]
theorem iV_at (K:List Int) (i:Nat) (h:i < K.length):(iV K)[i]?=some (.int .i64 K[i]):=by unfold iV;simp [h]
theorem isrc_take {W:World} {B g cp:Nat} {K:List Int} (h:W.ownsRow B 3 1 (.slice (some ⟨g,0,none⟩) K.length cp) K.length (iV K)) (q:Nat):∀ j u,(iV (K.take q))[j]?=some u→W.cell? ((⟨g,0,none⟩:Addr).add j)=some u:=by
 intro j u hu
 have hj:=(List.getElem?_eq_some_iff.1 hu).1
 rw [iV_length,List.length_take] at hj
 have c:=h.cellAt j (by omega)
 have e:(iV (K.take q))[j]?=(iV K)[j]?:=by unfold iV;rw [List.map_take,List.getElem?_take_of_lt (by omega)]
 rw [e] at hu
 have a:((⟨g,0,none⟩:Addr).add j)=⟨g,j,none⟩:=by simp [Addr.add];intro h;exact h.symm
 rw [a,c]
 exact hu
theorem isrc_drop {W:World} {B g cp:Nat} {K:List Int} (h:W.ownsRow B 3 1 (.slice (some ⟨g,0,none⟩) K.length cp) K.length (iV K)) (q:Nat):∀ j u,(iV (K.drop q))[j]?=some u→W.cell? ((⟨g,q,none⟩:Addr).add j)=some u:=by
 intro j u hu
 have hj:=(List.getElem?_eq_some_iff.1 hu).1
 rw [iV_length,List.length_drop] at hj
 have c:=h.cellAt (q+j) (by omega)
 have e:(iV (K.drop q))[j]?=(iV K)[q+j]?:=by unfold iV;rw [List.map_drop,List.getElem?_drop]
 rw [e] at hu
 have a:((⟨g,q,none⟩:Addr).add j)=⟨g,q+j,none⟩:=by simp [Addr.add]
 rw [a,c]
 exact hu
theorem own_slice11 {W:World} {B e k n:Nat} {v:Value} {xs:List Value} (h:W.ownsRow B e k v n xs) (h0:0 < n):∃ g c,v=.slice (some ⟨g,0,none⟩) n c∧n≤c∧c≤9223372036854775807:=by
 rcases h.2 with ⟨_,h⟩ | ⟨g,cap,cur,rfl,_,_,h2,h3,_⟩
 ·omega
 ·exact ⟨g,cap,rfl,h2,by unfold maxLen at h3;omega⟩
def IRow (w W:World) (r:Value) (K:List Int):Prop:=(r=.slice none 0 0∧K=[])∨(0 < K.length∧W.ownsRow w.heap.size 3 1 r K.length (iV K))
theorem IRow.ints {w W:World} {r:Value} {K:List Int} (h:IRow w W r K) (hn:K.length≤140737488351232):IsInts W r K:=by
 rcases h with ⟨rfl,rfl⟩ | ⟨_,h⟩
 ·exact IsRec.nil 1 intV W
 ·rw [← iV_rec] at h
  exact IsRec.own intV_len (by omega) h hn
section
variable {α:Type}
theorem startsF_snoc (s:Sp α):∀ (l:List (Sp α)) (acc:List Int),startsF acc (l++[s])=insI s.1 (startsF acc l)
 | [],acc=>rfl
 | x::l,acc=>by rw [List.cons_append,startsF,startsF,startsF_snoc s l]
end
theorem insI_in (k:Int):∀ K:List Int,K.Pairwise (·< ·)→k∈K→insI k K=K
 | [],_,h=>by cases h
 | x::K,hs,h=>by
   rw [insI]
   by_cases h1:x < k
   ·rw [if_pos h1]
    rcases List.mem_cons.1 h with rfl | h
    ·omega
    ·rw [insI_in k K (List.pairwise_cons.1 hs).2 h]
   ·rw [if_neg h1]
    rcases List.mem_cons.1 h with rfl | h
    ·rw [if_pos rfl]
    ·have:=(List.pairwise_cons.1 hs).1 k h
     omega
theorem insI_split (k:Int):∀ (K:List Int) (q:Nat) (hq:q≤K.length) (hl:∀ j (h:j < q),K[j]'(by omega) < k) (hn:∀ h:q < K.length,¬ K[q]'h < k) (hm:k ∉ K),insI k K=K.take q++k::K.drop q
 | [],q,hq,hl,hn,hm=>by
   obtain rfl:q=0:=by simpa using hq
   rfl
 | x::K,0,hq,hl,hn,hm=>by
   rw [insI]
   have:=hn (by simp)
   simp only [List.getElem_cons_zero] at this
   rw [if_neg this,if_neg (fun e=>hm (by rw [e];exact List.mem_cons_self ..))]
   rfl
 | x::K,q+1,hq,hl,hn,hm=>by
   rw [insI]
   have h0:=hl 0 (by omega)
   simp only [List.getElem_cons_zero] at h0
   rw [if_pos h0,insI_split k K q (by simpa using hq) (fun j h=>by have:=hl (j+1) (by omega);simpa using this) (fun h=>by have:=hn (by simpa using h);simpa using this) (fun h=>hm (List.mem_cons_of_mem _ h))]
   rfl
theorem insI_len (k:Int):∀ K:List Int,(insI k K).length≤K.length+1
 | []=>by simp [insI]
 | x::K=>by
   rw [insI]
   have:=insI_len k K
   split
   ·simp;omega
   ·split<;>simp
section
variable {α:Type}
theorem startsF_len:∀ (l:List (Sp α)) (acc:List Int),(startsF acc l).length≤acc.length+l.length
 | [],acc=>by rw [startsF];simp
 | s::l,acc=>by
   rw [startsF,List.length_cons]
   have h1:=startsF_len l (insI s.1 acc)
   have h2:=insI_len s.1 acc
   omega
theorem starts_len (l:List (Sp α)):(startsL l).length≤l.length:=by have:=startsF_len l [];simpa [startsL] using this
end
end Go.Proofs.YtiihegldhnlleaaGreat
namespace Go.Proofs.YtiihegldhnlleaaGreat
set_option maxRecDepth 100000
open Go.RowKit
set_option linter.unusedVariables false
attribute [local go_sem] ba_size
theorem run_bdeq (w:World) (x0 x1 x2 y0 y1 y2:Int):Sem.run Tryz.prog (Op.equalIn 10000 25 (.agg #[.int .i64 x0,.int .i64 x1,.int .i64 x2]) (.agg #[.int .i64 y0,.int .i64 y1,.int .i64 y2])) w=.ok (decide (x0=y0)&&decide (x1=y1)&&decide (x2=y2)) w:=by
 by_cases h0:x0=y0<;>by_cases h1:x1=y1<;>by_cases h2:x2=y2<;>simp [go_sem,h0,h1,h2]
theorem run_bdeql (w:World) (x0 x1 x2 y0 y1 y2:Int):Sem.run Tryz.prog (binOp .eql 25 (.agg #[.int .i64 x0,.int .i64 x1,.int .i64 x2]) (.agg #[.int .i64 y0,.int .i64 y1,.int .i64 y2])) w=.ok (.bool (decide (x0=y0)&&decide (x1=y1)&&decide (x2=y2))) w:=by
 rw [run_eql_struct,run_bdeq]
 rfl
theorem IsRec.src11 {α:Type} {sz:Nat} {enc:α→List Value} (hz:∀ x,(enc x).length=sz) (hs:0 < sz) {w W:World} {ad:Addr} {n c:Nat} {L:List α} (h:IsRec sz enc w (.slice (some ad) n c) L) (hb:Below w.heap.size w W):∀ j u,(recV enc L)[j]?=some u→W.cell? (ad.add j)=some u:=by
 intro j u hu
 have hj:j < L.length*sz:=by
  have:=(List.getElem?_eq_some_iff.1 hu).1
  rwa [recV_length hz] at this
 have hi:j / sz < L.length:=(Nat.div_lt_iff_lt_mul hs).2 hj
 have hm:j % sz < sz:=Nat.mod_lt _ hs
 have e:j / sz*sz+j % sz=j:=by rw [Nat.mul_comm];exact Nat.div_add_mod j sz
 have g:=recV_get hz L (j / sz) hi (j % sz) hm
 rw [e,hu] at g
 obtain ⟨a',n',c',hv,h1,h2,h3,h4,h6⟩:=h
 obtain ⟨rfl,rfl,rfl⟩:a'=some ad∧n'=n∧c'=c:=by simpa [eq_comm] using hv
 rcases h6 with h6 | ⟨b,off,ha,hlt,hc⟩
 ·exact absurd hi (by rw [h1,h6];exact Nat.not_lt_zero _)
 ·obtain rfl:ad=⟨b,off,none⟩:=by simpa using ha
  have:=hc (j / sz) hi (j % sz) u g.symm
  rw [Nat.add_assoc,e] at this
  have ea:(⟨b,off,none⟩:Addr).add j=⟨b,off+j,none⟩:=by simp [Addr.add]
  rw [ea]
  exact (hb.cell (p:=⟨b,off+j,none⟩) hlt).trans this
theorem wp_append_none12 {P:Program} {w:World} {ops:Array Oper} {rest:List Oper} {o:Oper} {a:Act} {Q:Exit→Act→World→Prop} (hgd:o.guard=none) (s x:Operand) (t:TypeId)
 (ho:o.op=.call { callee:=.builtin .append,args:=#[s,x],argTypes:=#[t,t] })
 (base:Nat) (e:TypeId) (i:TypeInfo) (size:Nat) (ht:P.underlying t=some (.slice e)) (hi:P.info? e=some i)
 (v:Value) (n c:Nat) (xs:List Value) (hs:a.eval s=v) (hown:w.ownsRow base e size v n xs) (hx:a.eval x=.slice none 0 c)
 (h:wpList P ops Q rest (a.put o.dst v) w):wpList P ops Q (o::rest) a w:=by
 refine wpList_plain hgd fun K hK=>?_
 have hrun:(Builtin.append_ #[t,t] o.type #[v,.slice none 0 c]).run P w=.ok v w:=by
  rcases hown.2 with ⟨rfl,rfl⟩ | ⟨g,cap,cur,rfl,_,_,hnc,_⟩
  ·simp [Builtin.append_,run_underlying ht,sizeOf,typeInfo,hi,Builtin.lenOf,Builtin.firstCells]
  ·simp [Builtin.append_,run_underlying ht,sizeOf,typeInfo,hi,Builtin.lenOf,Builtin.firstCells,hnc,storeCells]
 unfold Oper.wp
 simp [execOp,ho,resolve,invoke,builtin,hs,hx,hrun,Result.andThen]
 exact hK _ _ h
theorem recE12_app (L M:List Ed):recV edV (L++M)=recV edV L++recV edV M:=recV_append _ _ _
theorem edV_ones (M:List Ed):∀ u∈recV edV M,u.oneCell'=true:=by
 intro u hu
 obtain ⟨x,_,hu⟩:=List.mem_flatMap.1 hu
 exact edV_one x u hu
set_option maxHeartbeats 4000000 in
theorem pflat_any (vl:Value) (l:List Stp) (w:World) (hT:IsSts w vl l) (hF:(flatL l).length≤1000000000000) :
 Calls Tryz.prog 17 #[vl] w fun e w'=>EdRow 54 w (flatL l) e w':=by
 obtain ⟨i0,hi,hz0,hz1,hz2⟩:=info_parts ed_info
 obtain ⟨a,cap,rfl,h1,h2,h3,HC⟩:=hT.reads
 obtain ⟨n,hn⟩:∃ n,l.length=n:=⟨_,rfl⟩
 have HN:Hid (l.length=n):=hn
 have HF:Hid ((flatL l).length≤1000000000000):=hF
 rw [hn] at h1 h3 ⊢
 clear hn hT hF
 go_enter Tryz.func17,Tryz.ntmps17
 go_wp2_with fail
 go_loopw [3,8] (fun r iv wr=>∃ (k c:Nat),k≤n∧iv=.int .i64 k∧Hid ((flatL (l.take k)).length=c)∧Below w.heap.size w wr∧wr.ownsRow w.heap.size 54 5 r c (recV edV (flatL (l.take k)))) (fun _ iv _=>n - (intOf iv).toNat)
 case atStart=>exact ⟨0,0,Nat.zero_le _,rfl,rfl,Below.refl _ _,World.ownsRow_nil _ _ _ _⟩
 case round =>
  obtain ⟨k,c,hk,rfl,HLc,hbw,hrow⟩:=hrel
  by_cases hlt:k < n
  ·have hk1:Hid (k < l.length):=by show k < _;rw [HN.out];exact hlt
   have j0:(k:Int) < (n:Int):=by omega
   have jwk:IntKind.i64.wrap ((k:Int)+1)=(k:Int)+1:=by rw [IntKind.wrap_i64];omega
   obtain ⟨bb,off,rfl,u,hu,HQ⟩:=HC.out k hk1.out
   have HNx:Hid (flatL (l.take (k+1))=flatL (l.take k)++(l[k]'hk1.out).2.2):=flat_next l k hk1.out
   obtain ⟨q0,q1,q2⟩:=HQ wr hbw
   obtain ⟨E,hE⟩:∃ E,(l[k]'hk1.out).2.2=E:=⟨_,rfl⟩
   obtain ⟨y0,hy0⟩:∃ y,(l[k]'hk1.out).1=y:=⟨_,rfl⟩
   obtain ⟨y1,hy1⟩:∃ y,(l[k]'hk1.out).2.1=y:=⟨_,rfl⟩
   rw [hE] at hu HNx
   rw [hy0] at q0
   rw [hy1] at q1
   clear hE HQ hy0 hy1
   have HU:=Lib.hid hu
   obtain ⟨ae,ce,rfl,e1,e2,e3,_⟩:=IsEds.reads hu
   obtain ⟨m,hm⟩:∃ m,E.length=m:=⟨_,rfl⟩
   have HM:Hid (E.length=m):=hm
   rw [hm] at e1 e3 q2
   have HB:Hid (c+m≤1000000000000):=by
    have q:=flat_take l (k+1)
    rw [HNx.out,List.length_append,HLc.out,hm] at q
    have:=HF.out
    show _≤_
    omega
   clear hu
   have X:=SBox.new wr 69 #[.int .i64 y0,.int .i64 y1,.slice ae m ce]
   have x2:=X.cell 2 _ rfl
   have BX:=hbw.alloc hbw.size (.cells #[.int .i64 y0,.int .i64 y1,.slice ae m ce] 69)
   have hal:=hrow.alloc (.cells #[.int .i64 y0,.int .i64 y1,.slice ae m ce] 69)
   have hbb:=HB.out
   cases ae with
   | none =>
     obtain rfl:m=0:=by
      have h:=HU.out
      obtain ⟨a',n',c',hv,h1',_,_,_,h6⟩:=h
      obtain ⟨rfl,rfl,rfl⟩:none=a'∧E.length=n'∧ce=c':=by simpa using hv
      rcases h6 with h6 | ⟨_,_,h6,_⟩
      ·omega
      ·cases h6
     clear hm
     go_wp2_with (at_builtin;refine wp_append_none12 rfl _ _ 26 rfl w.heap.size 54 i0 5 Tryz.underlying26 hi _ _ ce _ rfl hal rfl ?_)
     refine ⟨⟨k+1,c,by omega,by first | go_num | simp,?_,BX,?_⟩,by simp [intOf];omega⟩
     ·show _=_
      rw [HNx.out,List.length_append,HLc.out,HM.out]
      rfl
     ·rw [HNx.out,List.eq_nil_of_length_eq_zero HM.out,List.append_nil]
      exact hal
   | some ad =>
     have HS:Hid (∀ j u,(recV edV E)[j]?=some u→(wr.alloc (.cells #[.int .i64 y0,.int .i64 y1,.slice (some ad) m ce] 69)).cell? (ad.add j)=some u):=IsRec.src11 edV_len (by omega) HU.out BX
     clear hm
     go_wp2_with (at_builtin;refine wpList_append_own_at _ rfl _ _ 26 rfl w.heap.size 54 i0 (.agg #[.int .i64 0,.int .i64 0,.int .i64 0,.int .i64 0,.int .i64 0]) 5 40 Tryz.underlying26 hi hz0 hz1 hz2 rfl (by decide) _ _ _ rfl hal ad m ce (recV edV E) rfl ?a0 ?a1 ?a2 ?a3 ?a4 ?a5 ?_)
     case a0=>rw [recV_length edV_len,HM.out]
     case a1=>exact HS.out
     case a2=>exact edV_ones E
     case a3=>unfold maxLen;omega
     case a4=>omega
     case a5=>have:=BX.size;omega
     intro r3 w3 hown3 hg3 _ hat3
     have B3:Below w.heap.size w w3:=BX.grown hg3 BX.size (fun j hj=>(hal.lt j hj).1)
     go_wp2_with fail
     refine ⟨⟨k+1,c+m,by omega,by first | go_num | simp,?_,B3,?_⟩,by simp [intOf];omega⟩
     ·show _=_
      rw [HNx.out,List.length_append,HLc.out,HM.out]
     ·rw [HNx.out,recE12_app]
      exact hown3
  ·obtain rfl:k=n:=by omega
   have jq:¬ (k:Int) < (k:Int):=by omega
   have HT:Hid (l.take k=l):=by show _=_;rw [← HN.out,List.take_length]
   go_wp2_with fail
   go_ret
   refine ⟨_,rfl,hbw,?_⟩
   rw [HT.out] at hrow HLc
   rw [HLc.out]
   exact hrow
theorem life_comm (h:List Ev) (t:Int):(∃ e f,commL h t=some e∧findP h t=((t,f,e,true),true))∨(commL h t=none∧(findP h t).1.2.2.2=false):=by
 cases hc:commL h t with
 | some e =>
   obtain ⟨f,hf⟩:=comm_find h t e hc
   exact .inl ⟨e,f,rfl,findP_of hf⟩
 | none =>
   refine .inr ⟨rfl,?_⟩
   unfold findP
   cases hf:findL h t with
   | none=>rfl
   | some x =>
     obtain ⟨t',f,e,b⟩:=x
     cases b with
     | false=>rfl
     | true =>
       have:=(find_comm h t 0 f e t' hf).2
       rw [hc] at this
       cases this
theorem cnt_find (h:List Ev) (i:Nat) (hi:i < h.length) (hk:(ev h i).1=2):countsB h i=((findP h (ev h i).2.1).1.2.2.2&&decide (i < (findP h (ev h i).2.1).1.2.2.1)):=by
 unfold countsB
 rw [decide_eq_true hi,decide_eq_true hk]
 rcases life_comm h (ev h i).2.1 with ⟨e,f,h1,h2⟩ | ⟨h1,h2⟩
 ·rw [h1,h2];simp
 ·rw [h1,h2];simp
theorem find_txn (h:List Ev) (i:Nat) (hi:i < h.length):(findP h (ev h i).2.1).1.1=(ev h i).2.1:=by
 obtain ⟨x,hx⟩:=find_has h i hi
 rw [findP_of hx]
 unfold findL at hx
 cases h1:fstL h (ev h i).2.1 h.length with
 | none=>rw [h1] at hx;cases hx
 | some f' =>
   rw [h1] at hx
   simp only at hx
   cases h2:endL h (ev h i).2.1 h.length with
   | none=>rw [h2] at hx;simp only [Option.some.injEq] at hx;rw [← hx]
   | some e'=>rw [h2] at hx;simp only [Option.some.injEq] at hx;rw [← hx]
def ofwL (h:List Ev) (i:Nat):Bd :=
    if (ev h i).2.2.2=[] then (0,0,0) else
    match writerL h (ev h i).2.2.1 (ev h i).2.2.2 with
    | none=>(0,0,0)
    | some w =>
      if (ev h w).2.1=(ev h i).2.1 then (4,(i:Int),(w:Int)) else
      match commL h (ev h w).2.1 with
      | none=>(1,(i:Int),(w:Int))
      | some e=>if lastN h (ev h w).2.1 (ev h i).2.2.1 (min h.length e)=some w then (0,0,0) else (2,(i:Int),oI (lastN h (ev h w).2.1 (ev h i).2.2.1 (min h.length e)))
theorem at_ofw (h:List Ev) (i:Nat) (hc:countsB h i=true) (hl:lastN h (ev h i).2.1 (ev h i).2.2.1 i=none):atL h i=ofwL h i:=by
 unfold atL ofwL
 rw [if_neg (by rw [hc];simp),hl]
 (try rfl)
theorem last_min (h:List Ev) (t:Int) (key:List UInt8) (e:Nat):lastL h t key (e:Int)=lastN h t key (min h.length e):=by
 unfold lastL
 rw [Int.toNat_natCast]
theorem oI_inj {a:Option Nat} {u:Nat}:oI a=(u:Int)↔a=some u:=by
 cases a with
 | none=>simp only [oI];constructor;intro h;omega;intro h;cases h
 | some k=>simp only [oI,Option.some.injEq];omega
open Go.RowKit Go.Shelf
abbrev ixV (h:List Ev) (i:Fin h.length):Array Value:=#[.int .i64 (i.val:Int),evW h[i.val]]
def KpE (n b:Nat) (W W':World):Prop:=Below n W W'∧W'.heap[b]?=W.heap[b]?
theorem kpE_t {n b:Nat} {A B C:World} (h:KpE n b A B) (k:KpE n b B C):KpE n b A C:=⟨h.1.trans k.1,k.2.trans h.2⟩
theorem kpE_b {n b:Nat} {w:World} (hn:n≤w.heap.size) (hb:b < w.heap.size) (W:World) (l:Nat) (o o':Obj) (hl:w.heap.size≤l) (h:W.heap[l]?=some o) (h1:o.isCells=false) (h2:o.isWalk=false):KpE n b W (W.putObj l o') :=
 ⟨belowK_b hn W l o o' hl h h1 h2,World.putObj_heap_other (by omega)⟩
theorem boxed_below7 {W W':World} {B:Nat} {t:TypeId} {v:Value} (h:Boxed W B t v) (b:Below W.heap.size W W'):Boxed W' B t v:=(b.block B h.lt).trans h
end Go.Proofs.YtiihegldhnlleaaGreat
namespace Go.Proofs.YtiihegldhnlleaaGreat
set_option maxRecDepth 100000
open Go.RowKit
set_option linter.unusedVariables false
attribute [local go_sem] ba_size
theorem pends_any (y0 y1:Int) (y2 y3:List UInt8) (w:World) :
 Calls Tryz.prog 67 #[.agg #[.int .i64 y0,.int .i64 y1,.string ⟨y2.toArray⟩,.string ⟨y3.toArray⟩]] w fun e w'=>e=.returned (.bool (decide (y0=4∨y0=5)))∧Below w.heap.size w w':=by
 have B:=fun o=>(Below.refl w.heap.size w).alloc (Nat.le_refl _) o
 by_cases d4:y0=4
 ·have e4:(y0==4)=true:=by rw [d4];rfl
  rw [decide_eq_true (show _∨_ from Or.inl d4)]
  clear d4
  go_enter Tryz.func67,Tryz.ntmps67
  go_wp2_with fail
  go_ret
  exact ⟨rfl,B _⟩
 ·have e4:(y0==4)=false:=beq_eq_false_iff_ne.2 d4
  by_cases d5:y0=5
  ·have e5:(y0==5)=true:=by rw [d5];rfl
   rw [decide_eq_true (show _∨_ from Or.inr d5)]
   clear d4 d5
   go_enter Tryz.func67,Tryz.ntmps67
   go_wp2_with fail
   go_ret
   exact ⟨rfl,B _⟩
  ·have e5:(y0==5)=false:=beq_eq_false_iff_ne.2 d5
   rw [decide_eq_false (show ¬ (_∨_) from fun h=>h.elim d4 d5)]
   clear d4 d5
   go_enter Tryz.func67,Tryz.ntmps67
   go_wp2_with fail
   go_ret
   exact ⟨rfl,B _⟩
theorem pwrites_any (y0 y1:Int) (y2 y3 key:List UInt8) (w:World) :
 Calls Tryz.prog 95 #[.agg #[.int .i64 y0,.int .i64 y1,.string ⟨y2.toArray⟩,.string ⟨y3.toArray⟩],.string ⟨key.toArray⟩] w fun e w'=>e=.returned (.bool (decide (y0=3∧y2=key)))∧Below w.heap.size w w':=by
 have B:=fun o=>(Below.refl w.heap.size w).alloc (Nat.le_refl _) o
 by_cases d3:y0=3
 ·have e3:(y0==3)=true:=by rw [d3];rfl
  by_cases dk:y2=key
  ·have ek:(y2==key)=true:=by rw [dk];exact beq_self_eq_true _
   rw [decide_eq_true (show _∧_ from ⟨d3,dk⟩)]
   clear d3 dk
   go_enter Tryz.func95,Tryz.ntmps95
   go_wp2_with fail
   go_ret
   exact ⟨rfl,B _⟩
  ·have ek:(y2==key)=false:=beq_eq_false_iff_ne.2 dk
   rw [decide_eq_false (show ¬ (_∧_) from fun h=>dk h.2)]
   clear d3 dk
   go_enter Tryz.func95,Tryz.ntmps95
   go_wp2_with fail
   go_ret
   exact ⟨rfl,B _⟩
 ·have e3:(y0==3)=false:=beq_eq_false_iff_ne.2 d3
  rw [decide_eq_false (show ¬ (_∧_) from fun h=>d3 h.1)]
  clear d3
  go_enter Tryz.func95,Tryz.ntmps95
  go_wp2_with fail
  go_ret
  exact ⟨rfl,B _⟩
set_option maxHeartbeats 1000000 in
theorem pwriter1_any (y0 y1:Int) (y2 y3 key val:List UInt8) (bk bv:Nat) (W:World) (Kk:Boxed W bk 9 (.string ⟨key.toArray⟩)) (Kv:Boxed W bv 9 (.string ⟨val.toArray⟩)) :
 Calls Tryz.prog 94 #[.agg #[.int .i64 y0,.int .i64 y1,.string ⟨y2.toArray⟩,.string ⟨y3.toArray⟩],.pointer (some ⟨bk,0,none⟩),.pointer (some ⟨bv,0,none⟩)] W fun e w'=>e=.returned (.bool (decide (y0=3∧y2=key∧y3=val)))∧Below W.heap.size W w':=by
 have B:=fun o=>(Below.refl W.heap.size W).alloc (Nat.le_refl _) o
 have C:=fun V=>pwrites_any y0 y1 y2 y3 key V
 have c0:=(Kk.alloc (.cells #[.int .i64 y0,.int .i64 y1,.string ⟨y2.toArray⟩,.string ⟨y3.toArray⟩] 49)).cell
 by_cases d3:y0=3∧y2=key
 ·rw [decide_eq_true d3] at C
  by_cases dv:y3=val
  ·have ev:(y3==val)=true:=by rw [dv];exact beq_self_eq_true _
   rw [decide_eq_true (show _∧_∧_ from ⟨d3.1,d3.2,dv⟩)]
   clear d3 dv
   go_enter Tryz.func94,Tryz.ntmps94
   go_wp2_with fail
   refine (C _).mono ?_
   rintro e w1 ⟨rfl,b1⟩
   have k2:=boxed_below7 (Kv.alloc (.cells #[.int .i64 y0,.int .i64 y1,.string ⟨y2.toArray⟩,.string ⟨y3.toArray⟩] 49)) b1
   have x3:=(SBox.new W 49 #[.int .i64 y0,.int .i64 y1,.string ⟨y2.toArray⟩,.string ⟨y3.toArray⟩]).below b1
   have v3:=x3.cell 3 _ rfl
   have v2:=k2.cell
   go_wp2_with fail
   go_ret
   exact ⟨rfl,bel_trans (B _) b1⟩
  ·have ev:(y3==val)=false:=beq_eq_false_iff_ne.2 dv
   rw [decide_eq_false (show ¬ (_∧_∧_) from fun h=>dv h.2.2)]
   clear d3 dv
   go_enter Tryz.func94,Tryz.ntmps94
   go_wp2_with fail
   refine (C _).mono ?_
   rintro e w1 ⟨rfl,b1⟩
   have k2:=boxed_below7 (Kv.alloc (.cells #[.int .i64 y0,.int .i64 y1,.string ⟨y2.toArray⟩,.string ⟨y3.toArray⟩] 49)) b1
   have x3:=(SBox.new W 49 #[.int .i64 y0,.int .i64 y1,.string ⟨y2.toArray⟩,.string ⟨y3.toArray⟩]).below b1
   have v3:=x3.cell 3 _ rfl
   have v2:=k2.cell
   go_wp2_with fail
   go_ret
   exact ⟨rfl,bel_trans (B _) b1⟩
 ·rw [decide_eq_false d3] at C
  rw [decide_eq_false (show ¬ (_∧_∧_) from fun h=>d3 ⟨h.1,h.2.1⟩)]
  clear d3
  go_enter Tryz.func94,Tryz.ntmps94
  go_wp2_with fail
  refine (C _).mono ?_
  rintro e w1 ⟨rfl,b1⟩
  have k2:=boxed_below7 (Kv.alloc (.cells #[.int .i64 y0,.int .i64 y1,.string ⟨y2.toArray⟩,.string ⟨y3.toArray⟩] 49)) b1
  have x3:=(SBox.new W 49 #[.int .i64 y0,.int .i64 y1,.string ⟨y2.toArray⟩,.string ⟨y3.toArray⟩]).below b1
  have v3:=x3.cell 3 _ rfl
  have v2:=k2.cell
  go_wp2_with fail
  go_ret
  exact ⟨rfl,bel_trans (B _) b1⟩
theorem pwritten1_any (y0 y1:Int) (y2 y3 val:List UInt8) (bv:Nat) (W:World) (Kv:Boxed W bv 9 (.string ⟨val.toArray⟩)) :
 Calls Tryz.prog 93 #[.agg #[.int .i64 y0,.int .i64 y1,.string ⟨y2.toArray⟩,.string ⟨y3.toArray⟩],.pointer (some ⟨bv,0,none⟩)] W fun e w'=>e=.returned (.bool (decide (y0=3∧y3=val)))∧Below W.heap.size W w':=by
 have B:=fun o=>(Below.refl W.heap.size W).alloc (Nat.le_refl _) o
 have c0:=(Kv.alloc (.cells #[.int .i64 y0,.int .i64 y1,.string ⟨y2.toArray⟩,.string ⟨y3.toArray⟩] 49)).cell
 by_cases d3:y0=3
 ·have e3:(y0==3)=true:=by rw [d3];rfl
  by_cases dk:y3=val
  ·have ek:(y3==val)=true:=by rw [dk];exact beq_self_eq_true _
   rw [decide_eq_true (show _∧_ from ⟨d3,dk⟩)]
   clear d3 dk
   go_enter Tryz.func93,Tryz.ntmps93
   go_wp2_with fail
   go_ret
   exact ⟨rfl,B _⟩
  ·have ek:(y3==val)=false:=beq_eq_false_iff_ne.2 dk
   rw [decide_eq_false (show ¬ (_∧_) from fun h=>dk h.2)]
   clear d3 dk
   go_enter Tryz.func93,Tryz.ntmps93
   go_wp2_with fail
   go_ret
   exact ⟨rfl,B _⟩
 ·have e3:(y0==3)=false:=beq_eq_false_iff_ne.2 d3
  rw [decide_eq_false (show ¬ (_∧_) from fun h=>d3 h.1)]
  clear d3
  go_enter Tryz.func93,Tryz.ntmps93
  go_wp2_with fail
  go_ret
  exact ⟨rfl,B _⟩
open Go.RowKit Go.Shelf
attribute [local go_sem] Oper.semAt_some
abbrev eventsF8 (b:Nat):Value:=.func (.func 61) #[] #[.pointer (some ⟨b,0,none⟩)]
theorem pevents8_any (a:Option Addr) (n cap:Nat) (w:World) :
 Calls Tryz.prog 44 #[.slice a n cap] w fun e w'=>e=.returned (eventsF8 w.heap.size)∧w'=w.alloc (.cells #[.slice a n cap] 22):=by
 go_enter Tryz.func44,Tryz.ntmps44
 go_wp2_with fail
 go_ret
 exact ⟨rfl,rfl⟩
set_option maxHeartbeats 1000000 in
theorem events8_in (l:Nat) (h:List Ev) (w0:World) (a:Option Addr) (cap:Nat) (hT:IsEvs w0 (.slice a h.length cap) h) (bh k:Nat) (J Jx:List (Fin h.length)→World→Prop)
 (hY:∀ pre x W,J pre W→pre.length < h.length→YieldAt Fence.wide (k - 1) Tryz.prog l (ixV h x) W fun e W'=>(e=.returned (.bool true)∧J (pre++[x]) W'∧KpE w0.heap.size bh W W')∨(e=.returned (.bool false)∧Jx (pre++[x]) W'))
 (W:World) (hW:Below w0.heap.size w0 W) (hbox:Boxed W bh 22 (.slice a h.length cap)) (h0:J [] W) :
 CallsIn Fence.wide k Tryz.prog 61 #[.func (.yield l) #[] #[],.pointer (some ⟨bh,0,none⟩)] W fun e W'=>(∃ v,e=.returned v) ∧
  ((∃ ys,ys=List.finRange h.length∧J ys W')∨(∃ pre,pre <+: List.finRange h.length∧Jx pre W')):=by
 have hdd:∀ k:Nat,(Fence.wide.depth.isSome=true→1≤k):=fun k h=>by cases h
 obtain ⟨a',cap',e1,h1,h2,h3,HC⟩:=hT.some_at
 obtain ⟨rfl,rfl⟩:a'=a∧cap'=cap:=by simpa [eq_comm] using e1
 clear e1 hT
 have c0:=hbox.cell
 refine callsIn_of_wp Tryz.func61 rfl trivial ?_ rfl
 simp only [Tryz.ntmps61,List.size_toArray,List.length_cons,List.length_nil,Nat.reduceAdd,Nat.reduceSub,Array.replicate_succ,Array.replicate_zero,List.push_toArray,List.append_toArray,List.nil_append,List.cons_append]
 gi_wp2
 gi_loopw [6] (fun i wr=>∃ k:Nat,k≤h.length∧i=.int .i64 k∧J ((List.finRange h.length).take k) wr∧Below w0.heap.size w0 wr∧Boxed wr bh 22 (.slice a' h.length cap')) (fun i _=>h.length - (intOf i).toNat)
 case atStart=>exact ⟨0,Nat.zero_le _,rfl,h0,hW,hbox⟩
 case round =>
  obtain ⟨k',hk,rfl,hJ,hB,hbx⟩:=hrel
  have c1:=hbx.cell
  by_cases hlt:k' < h.length
  ·obtain ⟨bb,off,rfl,hblt,hcell⟩:=HC.out k' hlt
   obtain ⟨p0,p1,p2,p3⟩:=IsEvs.at hlt hcell
   have q0:=(hB.cell (p:=⟨bb,off+k'*4,none⟩) hblt).trans p0
   have q1:=(hB.cell (p:=⟨bb,off+k'*4+1,none⟩) hblt).trans p1
   have q2:=(hB.cell (p:=⟨bb,off+k'*4+2,none⟩) hblt).trans p2
   have q3:=(hB.cell (p:=⟨bb,off+k'*4+3,none⟩) hblt).trans p3
   have hR0:=hY _ ⟨k',hlt⟩ wr hJ (by rw [List.length_take,List.length_finRange];omega)
   rw [← fin_take hlt] at hR0
   obtain ⟨⟨x0,x1,x2,x3⟩,hx⟩:∃ x,h[k']=x:=⟨_,rfl⟩
   simp only [ixV,evW,hx] at hR0
   rw [hx] at q0 q1 q2 q3
   obtain ⟨fn,tmps,assign,body,hy,hR⟩:=hR0
   clear p0 p1 p2 p3 hcell hx
   have i0:(k':Int) < (h.length:Int):=by omega
   gi_wp2
   refine ⟨hdd _,?_⟩
   refine hR.mono ?_
   rintro e W3 (⟨rfl,hJ3,hk3⟩ | ⟨rfl,hJx3⟩)
   ·have hbx3:Boxed W3 bh 22 (.slice (some ⟨bb,off,none⟩) h.length cap'):=hk3.2.trans hbx
    gi_wp2
    go_roundw
    case rel=>exact ⟨k'+1,by omega,by first | go_num | simp,hJ3,hB.trans hk3.1,hbx3⟩
    case measure=>simp [intOf];omega
   ·gi_wp2
    refine bodyPost_ret (results_none rfl _ _ _) rfl ?_
    exact ⟨⟨_,rfl⟩,.inr ⟨_,List.take_prefix _ _,hJx3⟩⟩
  ·obtain rfl:k'=h.length:=by omega
   have hE:(List.finRange h.length).take h.length=List.finRange h.length:=List.take_of_length_le (by rw [List.length_finRange];exact Nat.le_refl _)
   rw [hE] at hJ
   clear hE
   gi_wp2
   go_end0
   exact ⟨⟨_,rfl⟩,.inl ⟨_,rfl,hJ⟩⟩
theorem events8_stops (h:List Ev) (w0:World) (a:Option Addr) (cap:Nat) (hT:IsEvs w0 (.slice a h.length cap) h) (bh k:Nat) (w:World) (hW:Below w0.heap.size w0 w) (hbox:Boxed w bh 22 (.slice a h.length cap)) :
 SeqStopsK Fence.wide k Tryz.prog 61 #[.pointer (some ⟨bh,0,none⟩)] (fun x:Fin h.length=>ixV h x) (KpE w0.heap.size bh) (fun ys=>ys=List.finRange h.length) (fun pre=>pre <+: List.finRange h.length) h.length w :=
 fun l J Jx W hb _ _ hY h0=>events8_in l h w0 a cap hT bh k J Jx hY W (hW.trans (hb.mono hW.size)) (boxed_below7 hbox hb) h0
end Go.Proofs.YtiihegldhnlleaaGreat
namespace Go.Proofs.YtiihegldhnlleaaGreat
set_option maxRecDepth 100000
open Go.RowKit Go.Shelf
set_option linter.unusedVariables false
theorem boxed_bel {W W':World} {B b t:Nat} {v:Value} (h:Boxed W b t v) (hb:Below B W W') (hlt:b < B):Boxed W' b t v:=(hb.block b hlt).trans h
theorem sbox_bel {W W':World} {B b t:Nat} {c:Array Value} (h:SBox W b t c) (hb:Below B W W') (hlt:b < B):SBox W' b t c:=(hb.block b hlt).trans h
theorem ownFrom_of_below {β:Type} {B:Nat} {I:β→World→Prop} (hs:∀ s W,I s W→B≤W.heap.size) (h:∀ s W W',I s W→Below B W W'→I s W'):OwnFrom B I :=
 fun s W W' row hi hg hr=>h s W W' hi ((Below.refl B W).grown hg (hs s W hi) (fun k e=>(hr k e).1))
theorem ownFrom_false {β:Type} (B:Nat):OwnFrom B (fun (_:β) (_:World)=>False):=fun _ _ _ _ h _ _=>h
end Go.Proofs.YtiihegldhnlleaaGreat
namespace Go.Proofs.YtiihegldhnlleaaGreat
set_option maxRecDepth 100000
open Go.RowKit
set_option linter.unusedVariables false
section
variable {P:Program} {ops:Array Oper} {md:Region.Mode} {Q:Exit→Act→World→Prop}
theorem opW_of {n:Nat} {o:Oper} {a:Act} {w:World} {K:Act→World→Prop} (hnd:∀ c,o.op≠.defer c) (h:o.wp P a w K Q):o.wpIn Fence.wide n P a w K Q:=by
 unfold Oper.wpIn
 refine ⟨fun _ _=>trivial,?_⟩
 rw [show Fence.wide.round=none from rfl,show Oper.semAt none a.eval o=execOp a.eval o by unfold Oper.semAt;cases ho:o.op<;>first | rfl | exact absurd ho (hnd _)]
 unfold Oper.wp at h
 generalize (execOp a.eval o).run P w=r at *
 cases r with
 | ok n w' =>
   cases n<;>simp only [Oper.upon,Oper.uponIn] at h ⊢
   case value u=>exact h
   case skip=>exact h
   case defer d=>exact h
   case enter f args=>exact ⟨fun h0=>(by cases h0),callsIn_wide.2 h⟩
   case row row args=>exact ⟨fun h0=>(by cases h0),fun c cs _=>let ⟨v,w',r,s⟩:=h c cs;⟨v,w',r,stepsIn_wide.2 s⟩⟩
 | halt x w' =>
   cases x<;>simp only [Oper.upon,Oper.uponIn] at h ⊢
   case panic u=>exact h
theorem anyW_of {n:Nat} (hlo:¬ LetsOut Q) (hnd:noDefer ops=true):∀ (f:Nat) (listed:Array Bool) (a:Act) (w:World),wpAny P md ops Q f listed a w→wpAnyIn Fence.wide n P md ops Q f listed a w
 | 0,_,_,_,h=>h
 | f+1,listed,a,w,h=>by
   refine ⟨h.1,fun i hi=>?_⟩
   have h1:=h.2 i hi
   unfold wpOp at h1
   unfold wpOpIn
   cases ho:ops[i]? with
   | none=>simp only [ho] at h1 ⊢;exact anyW_of hlo hnd f _ _ _ h1
   | some o =>
     simp only [ho] at h1 ⊢
     by_cases hw:Region.wanted o (yielded ops a.tmps)=true
     ·rw [if_pos hw] at h1 ⊢
      rcases h1 with h1 | h1
      ·exact Oper.wpIn_mono (fun a' w' h'=>anyW_of hlo hnd f _ a' w' h') (opW_of (noDefer_spec hnd i o ho) h1)
      ·exact absurd h1.2 hlo
     ·rw [if_neg hw] at h1 ⊢
      exact ⟨fun _ _=>trivial,anyW_of hlo hnd f _ _ _ h1⟩
theorem regionW_any {n id:Nat} {a:Act} {w:World} (hm:P.follows .mixedOrders=true) (hlo:¬ LetsOut Q) (hnd:noDefer ops=true)
 (h:wpAny P .any ops Q ops.size (Array.replicate ops.size false) a w.drew):(Code.region id ops true).wpIn Fence.wide n P Q a w :=
 wpIn_region_any hm (anyW_of hlo hnd _ _ _ _ h)
def calmQ (Q:Exit→Act→World→Prop):Exit→Act→World→Prop
 | .panic _,_,_=>False
 | .outgrown,_,_=>False
 | .normal,a,w=>Q .normal a w
 | .ret,a,w=>Q .ret a w
 | .exit id,a,w=>Q (.exit id) a w
 | .goto t,a,w=>Q (.goto t) a w
theorem calm_normal {a:Act} {w:World} (h:Q .normal a w):calmQ Q .normal a w:=h
theorem calm_le:∀ (e:Exit) (a:Act) (w:World),calmQ Q e a w→Q e a w
 | .panic _,_,_,h=>h.elim
 | .outgrown,_,_,h=>h.elim
 | .normal,_,_,h=>h
 | .ret,_,_,h=>h
 | .exit _,_,_,h=>h
 | .goto _,_,_,h=>h
theorem regionW_calm {n id:Nat} {a:Act} {w:World} (hm:P.follows .mixedOrders=true) (hnd:noDefer ops=true)
 (h:wpAny P .any ops (calmQ Q) ops.size (Array.replicate ops.size false) a w.drew):(Code.region id ops true).wpIn Fence.wide n P Q a w :=
 Code.wpIn_mono calm_le (regionW_any hm (fun ⟨_,_,h⟩=>h) hnd h)
end
end Go.Proofs.YtiihegldhnlleaaGreat
namespace Go.Proofs.YtiihegldhnlleaaGreat
set_option maxRecDepth 100000
open Go.RowKit Go.Maps
set_option linter.unusedVariables false
theorem grown_below8 {a b:World} (x:Option Nat) (h:Below a.heap.size a b):a.grownBy b x:=⟨h.os,h.tape,h.output,h.size,fun i hi _=>h.block i hi⟩
theorem law8i:Keyed Tryz.prog 3:=int_keyed Tryz.underlying3
theorem law8s:Keyed Tryz.prog 9:=string_keyed Tryz.underlying9
theorem zero8i (w:World):(zeroValue 3).run Tryz.prog w=.ok (.int .i64 0) w:=by kernel_rfl
abbrev I64 (t:Int):Prop:=-9223372036854775808≤t∧t≤9223372036854775807
theorem key8i {t:Int} (ht:I64 t):keyOf Tryz.prog 3 (.int .i64 t)=some (.int .i64 t):=keyOf_int_mk Tryz.underlying3 (WalkArith.wf_i64 ht)
theorem key8s {t:List UInt8} (ht:t.length≤9223372036854775807):keyOf Tryz.prog 9 (.string ⟨t.toArray⟩)=some (.string t):=by
 have:=Go.WideMaps.keyOf_string_mk (P:=Tryz.prog) (k:=9) (s:=⟨t.toArray⟩) Tryz.underlying9 (by rw [ba_size];unfold maxLen;omega)
 simpa using this
def IMap (W:World) (b n:Nat) (f:Int→Option Int):Prop :=
 ∃ D:DataW Unit,W.ownsMap Tryz.prog 3 (plainElem Tryz.prog 3) b n D∧∀ t:Int,Maps.has D (.int .i64 t)=(f t).isSome∧∀ k,f t=some k→D.atKey (.int .i64 t) (.lit (.int .i64 0))=.lit (.int .i64 k)
def ISet (W:World) (b n:Nat) (p:Int→Bool):Prop :=
 ∃ D:DataW Unit,W.ownsMap Tryz.prog 3 unitElem b n D∧∀ t:Int,Maps.has D (.int .i64 t)=p t
def TSet (W:World) (b n:Nat) (p:List UInt8→Bool):Prop :=
 ∃ D:DataW Unit,W.ownsMap Tryz.prog 9 unitElem b n D∧∀ t:List UInt8,Maps.has D (.string t)=p t
section
variable {W W':World} {b n m B:Nat} {row:Option Nat}
theorem IMap.kept {f:Int→Option Int} (h:IMap W b n f) (hg:W.grownBy W' row) (hne:some b≠row):IMap W' b n f:=by
 obtain ⟨D,h1,h2⟩:=h;exact ⟨D,h1.kept hg hne,h2⟩
theorem ISet.kept {p:Int→Bool} (h:ISet W b n p) (hg:W.grownBy W' row) (hne:some b≠row):ISet W' b n p:=by
 obtain ⟨D,h1,h2⟩:=h;exact ⟨D,h1.kept hg hne,h2⟩
theorem TSet.kept {p:List UInt8→Bool} (h:TSet W b n p) (hg:W.grownBy W' row) (hne:some b≠row):TSet W' b n p:=by
 obtain ⟨D,h1,h2⟩:=h;exact ⟨D,h1.kept hg hne,h2⟩
theorem IMap.same {f:Int→Option Int} (h:IMap W b n f) (hb:W'.heap[b]?=W.heap[b]?):IMap W' b n f:=by
 obtain ⟨D,⟨es,clock,h1,h2⟩,h3⟩:=h;exact ⟨D,⟨es,clock,hb.trans h1,h2⟩,h3⟩
theorem ISet.same {p:Int→Bool} (h:ISet W b n p) (hb:W'.heap[b]?=W.heap[b]?):ISet W' b n p:=by
 obtain ⟨D,⟨es,clock,h1,h2⟩,h3⟩:=h;exact ⟨D,⟨es,clock,hb.trans h1,h2⟩,h3⟩
theorem TSet.same {p:List UInt8→Bool} (h:TSet W b n p) (hb:W'.heap[b]?=W.heap[b]?):TSet W' b n p:=by
 obtain ⟨D,⟨es,clock,h1,h2⟩,h3⟩:=h;exact ⟨D,⟨es,clock,hb.trans h1,h2⟩,h3⟩
theorem ISet.bel {p:Int→Bool} (h:ISet W b n p) (hb:Below B W W') (hlt:b < B):ISet W' b n p:=h.same (hb.block b hlt)
theorem IMap.mono {f:Int→Option Int} (h:IMap W b n f) (hn:n≤m):IMap W b m f:=by obtain ⟨D,h1,h2⟩:=h;exact ⟨D,h1.mono hn,h2⟩
theorem ISet.mono {p:Int→Bool} (h:ISet W b n p) (hn:n≤m):ISet W b m p:=by obtain ⟨D,h1,h2⟩:=h;exact ⟨D,h1.mono hn,h2⟩
theorem TSet.mono {p:List UInt8→Bool} (h:TSet W b n p) (hn:n≤m):TSet W b m p:=by obtain ⟨D,h1,h2⟩:=h;exact ⟨D,h1.mono hn,h2⟩
theorem IMap.made (w:World):IMap (w.alloc (.map #[] 0)) w.heap.size 0 (fun _=>none):=⟨.map [],World.ownsMap_made w _ _ _,fun t=>⟨rfl,fun k h=>by cases h⟩⟩
theorem ISet.made (w:World):ISet (w.alloc (.map #[] 0)) w.heap.size 0 (fun _=>false):=⟨.map [],World.ownsMap_made w _ _ _,fun t=>rfl⟩
theorem TSet.made (w:World):TSet (w.alloc (.map #[] 0)) w.heap.size 0 (fun _=>false):=⟨.map [],World.ownsMap_made w _ _ _,fun t=>rfl⟩
def updI (f:Int→Option Int) (t k:Int):Int→Option Int:=fun u=>if u=t then some k else f u
theorem IMap.put {f:Int→Option Int} {D:DataW Unit} (hd:∀ t:Int,Maps.has D (.int .i64 t)=(f t).isSome∧∀ k,f t=some k→D.atKey (.int .i64 t) (.lit (.int .i64 0))=.lit (.int .i64 k)) (hm:IsMap D) (t k:Int)
 (h:W.ownsMap Tryz.prog 3 (plainElem Tryz.prog 3) b n (D.put (.int .i64 t) (.lit (.int .i64 k)))):IMap W b n (updI f t k):=by
 refine ⟨_,h,fun u=>?_⟩
 unfold updI
 by_cases hu:u=t
 ·subst hu
  rw [if_pos rfl]
  refine ⟨?_,fun c hc=>?_⟩
  ·rw [has_put_same hm (show WideAt.IsKeyLit (.int .i64 u) from trivial)];rfl
  ·rw [atKey_put_same hm (show WideAt.IsKeyLit (.int .i64 u) from trivial)]
   simp at hc
   rw [hc]
 ·rw [if_neg hu]
  have hne:(Lit.int .i64 u)≠Lit.int .i64 t:=fun h=>hu (by cases h;rfl)
  refine ⟨?_,fun c hc=>?_⟩
  ·rw [has_put_other hne];exact (hd u).1
  ·rw [atKey_put_other hne];exact (hd u).2 c hc
theorem ISet.put {p:Int→Bool} {D:DataW Unit} (hd:∀ t:Int,Maps.has D (.int .i64 t)=p t) (hm:IsMap D) (t:Int) (h:W.ownsMap Tryz.prog 3 unitElem b n (D.put (.int .i64 t) (.agg []))):ISet W b n (fun u=>p u || decide (t=u)):=by
 refine ⟨_,h,fun u=>?_⟩
 by_cases hu:u=t
 ·subst hu
  rw [has_put_same hm (show WideAt.IsKeyLit (.int .i64 u) from trivial)]
  simp
 ·have hne:(Lit.int .i64 u)≠Lit.int .i64 t:=fun h=>hu (by cases h;rfl)
  rw [has_put_other hne,hd u]
  show p u=(p u || decide (t=u))
  rw [decide_eq_false (fun e:t=u=>hu e.symm),Bool.or_false]
theorem TSet.put {p:List UInt8→Bool} {D:DataW Unit} (hd:∀ t:List UInt8,Maps.has D (.string t)=p t) (hm:IsMap D) (t:List UInt8) (h:W.ownsMap Tryz.prog 9 unitElem b n (D.put (.string t) (.agg []))):TSet W b n (fun u=>p u || decide (t=u)):=by
 refine ⟨_,h,fun u=>?_⟩
 by_cases hu:u=t
 ·subst hu
  rw [has_put_same hm (show WideAt.IsKeyLit (.string u) from trivial)]
  simp
 ·have hne:(Lit.string u)≠Lit.string t:=fun h=>hu (by cases h;rfl)
  rw [has_put_other hne,hd u]
  show p u=(p u || decide (t=u))
  rw [decide_eq_false (fun e:t=u=>hu e.symm),Bool.or_false]
end
end Go.Proofs.YtiihegldhnlleaaGreat
namespace Go.Proofs.YtiihegldhnlleaaGreat
set_option maxRecDepth 100000
open Go.RowKit
set_option linter.unusedVariables false
def firstP (h:List Ev):Bd × Bool:=match badsL h with
 | []=>((0,0,0),false)
 | b::_=>(b,true)
open Go.RowKit Go.Shelf Go.Maps
theorem owns_turn {W W':World} {row:Option Nat} {B e k n:Nat} {v:Value} {xs:List Value} (h:W.ownsRow B e k v n xs) (hg:W.grownBy W' row) (hr:∀ r,row=some r→∃ o:Obj,W.heap[r]?=some o∧o.isCells=false):W'.ownsRow B e k v n xs:=by
 refine h.kept hg ?_
 rcases h.2 with ⟨rfl,_⟩ | ⟨g,cap,cur,rfl,_,hgb,_⟩
 ·exact .inl rfl
 ·refine .inr (fun e=>?_)
  obtain ⟨o,ho,hc⟩:=hr g (by rw [← e];rfl)
  rw [hgb] at ho
  cases ho
  cases hc
theorem keeps_row {W W':World} {B e k n:Nat} {v:Value} {xs:List Value} (h:W.ownsRow B e k v n xs) (hg:W.grownBy W' v.ownBlock):KeepsOthers W W' :=
 KeepsOthers.of_grownBy hg (fun j o ej hj=>by
  rcases h.2 with ⟨rfl,_⟩ | ⟨g,cap,cur,rfl,_,hgb,_⟩
  ·simp [Value.ownBlock] at ej
  ·obtain rfl:g=j:=by simpa [Value.ownBlock] using ej
   rw [hgb] at hj
   cases hj
   rfl)
end Go.Proofs.YtiihegldhnlleaaGreat
namespace Go.Proofs.YtiihegldhnlleaaGreat
set_option maxRecDepth 100000
open Go.RowKit Go.Maps
set_option linter.unusedVariables false
attribute [local go_sem] ba_size
def Grew (w:World) (B t k:Nat) (r:Value) (n:Nat) (xs:List Value) (e:Ending) (w':World):Prop :=
 ∃ r',e=.returned r'∧w'.ownsRow B t k r' n xs∧w.grownBy w' r.ownBlock∧(r'.ownBlock=r.ownBlock∨∃ g,r'.ownBlock=some g∧w.heap.size≤g)
set_option maxHeartbeats 1000000 in
theorem pbhE_any (r:Value) (n:Nat) (xs:List Value) (x0 x1 x2 x3 x4:Int) (B:Nat) (w:World) (hrow:w.ownsRow B 54 5 r n xs) (hB:B≤w.heap.size) (hn:n≤10000000) :
 Calls Tryz.prog 72 #[r,.agg #[.int .i64 x0,.int .i64 x1,.int .i64 x2,.int .i64 x3,.int .i64 x4]] w fun e w'=>Grew w B 54 5 r (n+1) (xs++[.int .i64 x0,.int .i64 x1,.int .i64 x2,.int .i64 x3,.int .i64 x4]) e w':=by
 obtain ⟨i0,hi,hz0,hz1,hz2⟩:=info_parts ed_info
 have X0:=SBox.new w 54 #[.int .i64 x0,.int .i64 x1,.int .i64 x2,.int .i64 x3,.int .i64 x4]
 have d0:=X0.cell 0 _ rfl
 have d1:=X0.cell 1 _ rfl
 have d2:=X0.cell 2 _ rfl
 have d3:=X0.cell 3 _ rfl
 have d4:=X0.cell 4 _ rfl
 go_enter Tryz.func72,Tryz.ntmps72
 go_wp2_with (at_builtin;refine wpList_append_own_at _ rfl _ _ 26 rfl B 54 i0 (.agg #[.int .i64 0,.int .i64 0,.int .i64 0,.int .i64 0,.int .i64 0]) 5 40 Tryz.underlying26 hi hz0 hz1 hz2 rfl (by decide) r _ _ rfl ((hrow.alloc _).alloc _) ⟨w.heap.size+1,0,none⟩ 1 1 [.int .i64 x0,.int .i64 x1,.int .i64 x2,.int .i64 x3,.int .i64 x4] rfl rfl ?a1 ?a2 ?a3 ?a4 ?a5 ?_)
 case a1=>intro j u hj;match j,hj with
  | 0,hj=>simp at hj;subst hj;first | (simp [Addr.add];done) | exact cell_new7 (by simp) rfl
  | 1,hj=>simp at hj;subst hj;first | (simp [Addr.add];done) | exact cell_new7 (by simp) rfl
  | 2,hj=>simp at hj;subst hj;first | (simp [Addr.add];done) | exact cell_new7 (by simp) rfl
  | 3,hj=>simp at hj;subst hj;first | (simp [Addr.add];done) | exact cell_new7 (by simp) rfl
  | 4,hj=>simp at hj;subst hj;first | (simp [Addr.add];done) | exact cell_new7 (by simp) rfl
 case a2=>intro u hu;simp at hu;rcases hu with rfl | rfl | rfl | rfl | rfl<;>rfl
 case a3=>unfold maxLen;omega
 case a4=>omega
 case a5=>simp;omega
 intro r3 w3 hown3 hg3 _ hat3
 go_wp2_with fail
 go_ret
 exact ⟨r3,rfl,hown3,((World.grownBy_alloc _ _ _).trans (World.grownBy_alloc _ _ _)).trans hg3,hat3.imp id (fun e=>⟨_,e,by omega⟩)⟩
theorem int_info10:(Tryz.prog.info? 3).map (fun i=>(i.zero,i.size,i.bytes))=some (some (.int .i64 0),1,8):=by kernel_rfl
set_option maxHeartbeats 1000000 in
theorem pbhI_any (r:Value) (n:Nat) (xs:List Value) (x:Int) (B:Nat) (w:World) (hrow:w.ownsRow B 3 1 r n xs) (hB:B≤w.heap.size) (hn:n≤10000000) :
 Calls Tryz.prog 81 #[r,.int .i64 x] w fun e w'=>Grew w B 3 1 r (n+1) (xs++[.int .i64 x]) e w':=by
 obtain ⟨i0,hi,hz0,hz1,hz2⟩:=info_parts int_info10
 go_enter Tryz.func81,Tryz.ntmps81
 go_wp2_with (at_builtin;refine wpList_append_own_at _ rfl _ _ 23 rfl B 3 i0 (.int .i64 0) 1 8 Tryz.underlying23 hi hz0 hz1 hz2 rfl (by decide) r _ _ rfl (hrow.alloc _) ⟨w.heap.size,0,none⟩ 1 1 [.int .i64 x] rfl rfl ?a1 ?a2 ?a3 ?a4 ?a5 ?_)
 case a1=>intro j u hj;match j,hj with
  | 0,hj=>simp at hj;subst hj;first | (simp [Addr.add];done) | exact cell_new7 (by simp) rfl
 case a2=>intro u hu;simp at hu;subst hu;rfl
 case a3=>unfold maxLen;omega
 case a4=>omega
 case a5=>simp;omega
 intro r3 w3 hown3 hg3 _ hat3
 go_wp2_with fail
 go_ret
 exact ⟨r3,rfl,hown3,(World.grownBy_alloc _ _ _).trans hg3,hat3.imp id (fun e=>⟨_,e,by omega⟩)⟩
set_option maxHeartbeats 1000000 in
theorem pbhS_any (r:Value) (n:Nat) (xs:List Value) (a b:Int) (ad:Option Addr) (m c:Nat) (B:Nat) (w:World) (hrow:w.ownsRow B 69 3 r n xs) (hB:B≤w.heap.size) (hn:n≤10000000) :
 Calls Tryz.prog 99 #[r,.agg #[.int .i64 a,.int .i64 b,.slice ad m c]] w fun e w'=>Grew w B 69 3 r (n+1) (xs++[.int .i64 a,.int .i64 b,.slice ad m c]) e w':=by
 obtain ⟨i0,hi,hz0,hz1,hz2⟩:=info_parts st_info
 have X0:=SBox.new w 69 #[.int .i64 a,.int .i64 b,.slice ad m c]
 have d0:=X0.cell 0 _ rfl
 have d1:=X0.cell 1 _ rfl
 have d2:=X0.cell 2 _ rfl
 go_enter Tryz.func99,Tryz.ntmps99
 go_wp2_with (at_builtin;refine wpList_append_own_at _ rfl _ _ 38 rfl B 69 i0 (.agg #[.int .i64 0,.int .i64 0,.slice none 0 0]) 3 40 Tryz.underlying38 hi hz0 hz1 hz2 rfl (by decide) r _ _ rfl ((hrow.alloc _).alloc _) ⟨w.heap.size+1,0,none⟩ 1 1 [.int .i64 a,.int .i64 b,.slice ad m c] rfl rfl ?a1 ?a2 ?a3 ?a4 ?a5 ?_)
 case a1=>intro j u hj;match j,hj with
  | 0,hj=>simp at hj;subst hj;first | (simp [Addr.add];done) | exact cell_new7 (by simp) rfl
  | 1,hj=>simp at hj;subst hj;first | (simp [Addr.add];done) | exact cell_new7 (by simp) rfl
  | 2,hj=>simp at hj;subst hj;first | (simp [Addr.add];done) | exact cell_new7 (by simp) rfl
 case a2=>intro u hu;simp at hu;rcases hu with rfl | rfl | rfl<;>rfl
 case a3=>unfold maxLen;omega
 case a4=>omega
 case a5=>simp;omega
 intro r3 w3 hown3 hg3 _ hat3
 go_wp2_with fail
 go_ret
 exact ⟨r3,rfl,hown3,((World.grownBy_alloc _ _ _).trans (World.grownBy_alloc _ _ _)).trans hg3,hat3.imp id (fun e=>⟨_,e,by omega⟩)⟩
def OneR (w:World) (a b:Int) (es:List Ed) (e:Ending) (w':World):Prop :=
 ∃ ad c,e=.returned (.agg #[.int .i64 a,.int .i64 b,.slice ad es.length c])∧Below w.heap.size w w'∧w'.ownsRow w.heap.size 54 5 (.slice ad es.length c) es.length (recV edV es)
theorem own_shape {W:World} {B e k n:Nat} {v:Value} {xs:List Value} (h:W.ownsRow B e k v n xs):∃ ad c,v=.slice ad n c:=by
 rcases h.2 with ⟨rfl,rfl⟩ | ⟨g,cap,cur,rfl,_⟩
 ·exact ⟨none,0,rfl⟩
 ·exact ⟨_,_,rfl⟩
theorem own_far {W:World} {B e k n:Nat} {v:Value} {xs:List Value} (h:W.ownsRow B e k v n xs):∀ g,v.ownBlock=some g→B≤g:=fun g hg=>(h.lt g hg).1
theorem owns_set3 {W:World} {B e k n p:Nat} {v:Value} {xs:List Value} (h:W.ownsRow B e k v n xs) (t:Nat) (hne:v.ownBlock≠some p) (a b c:Value):(((W.setCell ⟨p,0,none⟩ a).setCell ⟨p,1,none⟩ b).setCell ⟨p,2,none⟩ c).ownsRow B e k v n xs :=
 owns_keep7 (g:=p) (j:=2) (owns_keep7 (g:=p) (j:=1) (owns_keep7 (g:=p) (j:=0) h a (fun e=>hne e.symm)) b (fun e=>hne e.symm)) c (fun e=>hne e.symm)
set_option maxHeartbeats 2000000 in
theorem palone_any (x0 x1 x2 x3 x4:Int) (w:World) :
 Calls Tryz.prog 100 #[.agg #[.int .i64 x0,.int .i64 x1,.int .i64 x2,.int .i64 x3,.int .i64 x4]] w fun e w'=>OneR w x1 x2 [(x0,x1,x2,x3,x4)] e w':=by
 have Xx:=(SBox.new w 54 #[.int .i64 x0,.int .i64 x1,.int .i64 x2,.int .i64 x3,.int .i64 x4]).alloc (.cells #[.int .i64 0,.int .i64 0,.slice none 0 0] 69)
 have Y:=SBox.new (w.alloc (.cells #[.int .i64 x0,.int .i64 x1,.int .i64 x2,.int .i64 x3,.int .i64 x4] 54)) 69 #[.int .i64 0,.int .i64 0,.slice none 0 0]
 simp only [World.size_alloc] at Xx Y
 have B0:Below w.heap.size w ((w.alloc (.cells #[.int .i64 x0,.int .i64 x1,.int .i64 x2,.int .i64 x3,.int .i64 x4] 54)).alloc (.cells #[.int .i64 0,.int .i64 0,.slice none 0 0] 69)):=((Below.refl _ w).alloc (Nat.le_refl _) _).alloc (by simp) _
 have S0:((w.alloc (.cells #[.int .i64 x0,.int .i64 x1,.int .i64 x2,.int .i64 x3,.int .i64 x4] 54)).alloc (.cells #[.int .i64 0,.int .i64 0,.slice none 0 0] 69)).heap.size=w.heap.size+1+1:=by simp
 go_enter Tryz.func100,Tryz.ntmps100
 go_wp2_with fail
 refine wp_region_any (by kernel_rfl) ?_
 change wpAny _ _ _ _ _ _ _ (World.drew _)
 generalize hwd:World.drew _=wd
 have Bd:Below w.heap.size w wd:=by rw [← hwd];exact B0.drew
 have Sd:wd.heap.size=w.heap.size+1+1:=by rw [← hwd];exact S0
 have Dx:SBox wd (w.heap.size) 54 #[.int .i64 x0,.int .i64 x1,.int .i64 x2,.int .i64 x3,.int .i64 x4]:=by rw [← hwd];exact Xx
 have DY:SBox wd (w.heap.size+1) 69 #[.int .i64 0,.int .i64 0,.slice none 0 0]:=by rw [← hwd];exact Y
 clear hwd B0 S0 Xx Y
 have dx0:=Dx.cell 0 _ rfl
 have dx1:=Dx.cell 1 _ rfl
 have dx2:=Dx.cell 2 _ rfl
 have dx3:=Dx.cell 3 _ rfl
 have dx4:=Dx.cell 4 _ rfl
 refine any_of_C (C:=fun V=>V.cell? ⟨w.heap.size,0,none⟩=some (.int .i64 x0)∧V.cell? ⟨w.heap.size,1,none⟩=some (.int .i64 x1)∧V.cell? ⟨w.heap.size,2,none⟩=some (.int .i64 x2)∧V.cell? ⟨w.heap.size,3,none⟩=some (.int .i64 x3)∧V.cell? ⟨w.heap.size,4,none⟩=some (.int .i64 x4)) 7 _ _ _ _ ?_
 refine takeC (i:=0) (v:=.pointer (some ⟨w.heap.size,1,none⟩)) rfl (by kernel_rfl) (by kernel_rfl) (by kernel_rfl) (by kernel_rfl) (by kernel_rfl) (fun _ _ _ h=>h) (Or.inl ⟨by kernel_rfl,fun V hV=>by obtain ⟨r0,r1,r2,r3,r4⟩:=hV;go_simp⟩) ?_
 refine takeC (i:=1) (v:=.int .i64 x1) rfl (by kernel_rfl) (by kernel_rfl) (by kernel_rfl) (by kernel_rfl) (by kernel_rfl) (fun _ _ _ h=>h) (Or.inl ⟨by kernel_rfl,fun V hV=>by obtain ⟨r0,r1,r2,r3,r4⟩:=hV;go_simp⟩) ?_
 refine takeC (i:=2) (v:=.pointer (some ⟨w.heap.size,2,none⟩)) rfl (by kernel_rfl) (by kernel_rfl) (by kernel_rfl) (by kernel_rfl) (by kernel_rfl) (fun _ _ _ h=>h) (Or.inl ⟨by kernel_rfl,fun V hV=>by obtain ⟨r0,r1,r2,r3,r4⟩:=hV;go_simp⟩) ?_
 refine takeC (i:=3) (v:=.int .i64 x2) rfl (by kernel_rfl) (by kernel_rfl) (by kernel_rfl) (by kernel_rfl) (by kernel_rfl) (fun _ _ _ h=>h) (Or.inl ⟨by kernel_rfl,fun V hV=>by obtain ⟨r0,r1,r2,r3,r4⟩:=hV;go_simp⟩) ?_
 refine takeC (i:=4) (v:=.agg #[.int .i64 x0,.int .i64 x1,.int .i64 x2,.int .i64 x3,.int .i64 x4]) rfl (by kernel_rfl) (by kernel_rfl) (by kernel_rfl) (by kernel_rfl) (by kernel_rfl) (fun _ _ _ h=>h) (Or.inl ⟨by kernel_rfl,fun V hV=>by obtain ⟨r0,r1,r2,r3,r4⟩:=hV;go_simp⟩) ?_
 refine consC (i:=5) (by kernel_rfl) (by kernel_rfl) ⟨dx0,dx1,dx2,dx3,dx4⟩ rfl (fun K hK=>?_)
 go_wp2_with fail
 refine (pbhE_any (.slice none 0 0) 0 [] x0 x1 x2 x3 x4 w.heap.size _ (World.ownsRow_nil _ _ _ _) (by omega) (by omega)).mono ?_
 rintro e1 w1 ⟨v1,rfl,ho1,hg1,_⟩
 go_wp2_with fail
 have g1:wd.grownBy w1 none:=hg1
 have b1:Below wd.heap.size wd w1:=(Below.refl _ wd).grown g1 (Nat.le_refl _) (fun r e=>by cases e)
 obtain ⟨a1,c1,rfl⟩:=own_shape ho1
 have Ex:=Dx.below b1
 have EY:=DY.below b1
 have ex0:=Ex.cell 0 _ rfl
 have ex1:=Ex.cell 1 _ rfl
 have ex2:=Ex.cell 2 _ rfl
 have ex3:=Ex.cell 3 _ rfl
 have ex4:=Ex.cell 4 _ rfl
 have BW:Below w.heap.size w w1:=bel_trans Bd b1
 refine takeC (i:=6) (v:=.agg #[.int .i64 x1,.int .i64 x2,.slice a1 1 c1]) rfl (by kernel_rfl) (by kernel_rfl) (by kernel_rfl) (by kernel_rfl) (by kernel_rfl) (fun _ _ _ h=>h) (Or.inl ⟨by kernel_rfl,fun V hV=>by obtain ⟨r0,r1,r2,r3,r4⟩:=hV;go_simp⟩) ?_
 have k0:=EY.cell 0 _ rfl
 have k1:=EY.cell 1 _ rfl
 have k2:=EY.cell 2 _ rfl
 have m0:=EY.frozen 0
 have m1:=EY.frozen 1
 have m2:=EY.frozen 2
 refine lastC (by kernel_rfl) (by kernel_rfl) ⟨ex0,ex1,ex2,ex3,ex4⟩ (of_decide_eq_true (by kernel_rfl)) ?_
 refine any_seqI [7] [_] _ _ _ rfl (by kernel_rfl) ?_
 go_wp2_with fail
 generalize hW:World.setCell _ _ _=W
 have RW:SBox W (w.heap.size+1) 69 #[.int .i64 x1,.int .i64 x2,.slice a1 1 c1]:=by rw [← hW];exact SBox.put3 EY _ _ _
 have BZ:Below w.heap.size w W:=by rw [← hW];exact ((BW.setCell (p:=⟨w.heap.size+1,0,none⟩) (by first | (simp;done) | (simp;omega)) _).setCell (p:=⟨w.heap.size+1,1,none⟩) (by first | (simp;done) | (simp;omega)) _).setCell (p:=⟨w.heap.size+1,2,none⟩) (by first | (simp;done) | (simp;omega)) _
 have hRow:W.ownsRow w.heap.size 54 5 (.slice a1 1 c1) 1 (recV edV [(x0,x1,x2,x3,x4)]):=by
  rw [← hW]
  have hne:(Value.slice a1 1 c1).ownBlock≠some (w.heap.size+1):=fun e=>block_not_row EY (by decide) ho1 e.symm
  exact owns_set3 ho1 0 hne _ _ _
 exact bodyPost_ret (v:=.agg #[.int .i64 x1,.int .i64 x2,.slice a1 1 c1]) (results_row1 Tryz.results100 _ _ (w.heap.size+1) 69 _ (0,0) _ rfl RW Tryz.underlying69 rfl size_st) rfl ⟨_,_,rfl,BZ,hRow⟩
set_option maxHeartbeats 2000000 in
theorem pjoined_any (x0 x1 x2 x3 x4 y0 y1 y2 y3 y4:Int) (w:World) :
 Calls Tryz.prog 101 #[.agg #[.int .i64 x0,.int .i64 x1,.int .i64 x2,.int .i64 x3,.int .i64 x4],.agg #[.int .i64 y0,.int .i64 y1,.int .i64 y2,.int .i64 y3,.int .i64 y4]] w fun e w'=>OneR w x1 y2 [(x0,x1,x2,x3,x4),(y0,y1,y2,y3,y4)] e w':=by
 have Xx:=((SBox.new w 54 #[.int .i64 x0,.int .i64 x1,.int .i64 x2,.int .i64 x3,.int .i64 x4]).alloc (.cells #[.int .i64 y0,.int .i64 y1,.int .i64 y2,.int .i64 y3,.int .i64 y4] 54)).alloc (.cells #[.int .i64 0,.int .i64 0,.slice none 0 0] 69)
 have Xy:=(SBox.new (w.alloc (.cells #[.int .i64 x0,.int .i64 x1,.int .i64 x2,.int .i64 x3,.int .i64 x4] 54)) 54 #[.int .i64 y0,.int .i64 y1,.int .i64 y2,.int .i64 y3,.int .i64 y4]).alloc (.cells #[.int .i64 0,.int .i64 0,.slice none 0 0] 69)
 have Y:=SBox.new ((w.alloc (.cells #[.int .i64 x0,.int .i64 x1,.int .i64 x2,.int .i64 x3,.int .i64 x4] 54)).alloc (.cells #[.int .i64 y0,.int .i64 y1,.int .i64 y2,.int .i64 y3,.int .i64 y4] 54)) 69 #[.int .i64 0,.int .i64 0,.slice none 0 0]
 simp only [World.size_alloc] at Xx Xy Y
 have B0:Below w.heap.size w (((w.alloc (.cells #[.int .i64 x0,.int .i64 x1,.int .i64 x2,.int .i64 x3,.int .i64 x4] 54)).alloc (.cells #[.int .i64 y0,.int .i64 y1,.int .i64 y2,.int .i64 y3,.int .i64 y4] 54)).alloc (.cells #[.int .i64 0,.int .i64 0,.slice none 0 0] 69)):=(((Below.refl _ w).alloc (Nat.le_refl _) _).alloc (by simp) _).alloc (by simp;omega) _
 have S0:(((w.alloc (.cells #[.int .i64 x0,.int .i64 x1,.int .i64 x2,.int .i64 x3,.int .i64 x4] 54)).alloc (.cells #[.int .i64 y0,.int .i64 y1,.int .i64 y2,.int .i64 y3,.int .i64 y4] 54)).alloc (.cells #[.int .i64 0,.int .i64 0,.slice none 0 0] 69)).heap.size=w.heap.size+1+1+1:=by simp
 go_enter Tryz.func101,Tryz.ntmps101
 go_wp2_with fail
 refine wp_region_any (by kernel_rfl) ?_
 change wpAny _ _ _ _ _ _ _ (World.drew _)
 generalize hwd:World.drew _=wd
 have Bd:Below w.heap.size w wd:=by rw [← hwd];exact B0.drew
 have Sd:wd.heap.size=w.heap.size+1+1+1:=by rw [← hwd];exact S0
 have Dx:SBox wd (w.heap.size) 54 #[.int .i64 x0,.int .i64 x1,.int .i64 x2,.int .i64 x3,.int .i64 x4]:=by rw [← hwd];exact Xx
 have Dy:SBox wd (w.heap.size+1) 54 #[.int .i64 y0,.int .i64 y1,.int .i64 y2,.int .i64 y3,.int .i64 y4]:=by rw [← hwd];exact Xy
 have DY:SBox wd (w.heap.size+1+1) 69 #[.int .i64 0,.int .i64 0,.slice none 0 0]:=by rw [← hwd];exact Y
 clear hwd B0 S0 Xx Xy Y
 have dx0:=Dx.cell 0 _ rfl
 have dx1:=Dx.cell 1 _ rfl
 have dx2:=Dx.cell 2 _ rfl
 have dx3:=Dx.cell 3 _ rfl
 have dx4:=Dx.cell 4 _ rfl
 have dy0:=Dy.cell 0 _ rfl
 have dy1:=Dy.cell 1 _ rfl
 have dy2:=Dy.cell 2 _ rfl
 have dy3:=Dy.cell 3 _ rfl
 have dy4:=Dy.cell 4 _ rfl
 refine any_of_C (C:=fun V=>V.cell? ⟨w.heap.size,0,none⟩=some (.int .i64 x0)∧V.cell? ⟨w.heap.size,1,none⟩=some (.int .i64 x1)∧V.cell? ⟨w.heap.size,2,none⟩=some (.int .i64 x2)∧V.cell? ⟨w.heap.size,3,none⟩=some (.int .i64 x3)∧V.cell? ⟨w.heap.size,4,none⟩=some (.int .i64 x4)∧V.cell? ⟨w.heap.size+1,0,none⟩=some (.int .i64 y0)∧V.cell? ⟨w.heap.size+1,1,none⟩=some (.int .i64 y1)∧V.cell? ⟨w.heap.size+1,2,none⟩=some (.int .i64 y2)∧V.cell? ⟨w.heap.size+1,3,none⟩=some (.int .i64 y3)∧V.cell? ⟨w.heap.size+1,4,none⟩=some (.int .i64 y4)) 9 _ _ _ _ ?_
 refine takeC (i:=0) (v:=.pointer (some ⟨w.heap.size,1,none⟩)) rfl (by kernel_rfl) (by kernel_rfl) (by kernel_rfl) (by kernel_rfl) (by kernel_rfl) (fun _ _ _ h=>h) (Or.inl ⟨by kernel_rfl,fun V hV=>by obtain ⟨r0,r1,r2,r3,r4,r5,r6,r7,r8,r9⟩:=hV;go_simp⟩) ?_
 refine takeC (i:=1) (v:=.int .i64 x1) rfl (by kernel_rfl) (by kernel_rfl) (by kernel_rfl) (by kernel_rfl) (by kernel_rfl) (fun _ _ _ h=>h) (Or.inl ⟨by kernel_rfl,fun V hV=>by obtain ⟨r0,r1,r2,r3,r4,r5,r6,r7,r8,r9⟩:=hV;go_simp⟩) ?_
 refine takeC (i:=2) (v:=.pointer (some ⟨w.heap.size+1,2,none⟩)) rfl (by kernel_rfl) (by kernel_rfl) (by kernel_rfl) (by kernel_rfl) (by kernel_rfl) (fun _ _ _ h=>h) (Or.inl ⟨by kernel_rfl,fun V hV=>by obtain ⟨r0,r1,r2,r3,r4,r5,r6,r7,r8,r9⟩:=hV;go_simp⟩) ?_
 refine takeC (i:=3) (v:=.int .i64 y2) rfl (by kernel_rfl) (by kernel_rfl) (by kernel_rfl) (by kernel_rfl) (by kernel_rfl) (fun _ _ _ h=>h) (Or.inl ⟨by kernel_rfl,fun V hV=>by obtain ⟨r0,r1,r2,r3,r4,r5,r6,r7,r8,r9⟩:=hV;go_simp⟩) ?_
 refine takeC (i:=4) (v:=.agg #[.int .i64 x0,.int .i64 x1,.int .i64 x2,.int .i64 x3,.int .i64 x4]) rfl (by kernel_rfl) (by kernel_rfl) (by kernel_rfl) (by kernel_rfl) (by kernel_rfl) (fun _ _ _ h=>h) (Or.inl ⟨by kernel_rfl,fun V hV=>by obtain ⟨r0,r1,r2,r3,r4,r5,r6,r7,r8,r9⟩:=hV;go_simp⟩) ?_
 refine takeC (i:=6) (v:=.agg #[.int .i64 y0,.int .i64 y1,.int .i64 y2,.int .i64 y3,.int .i64 y4]) rfl (by kernel_rfl) (by kernel_rfl) (by kernel_rfl) (by kernel_rfl) (by kernel_rfl) (fun _ _ _ h=>h) (Or.inl ⟨by kernel_rfl,fun V hV=>by obtain ⟨r0,r1,r2,r3,r4,r5,r6,r7,r8,r9⟩:=hV;go_simp⟩) ?_
 refine consC (i:=5) (by kernel_rfl) (by kernel_rfl) ⟨dx0,dx1,dx2,dx3,dx4,dy0,dy1,dy2,dy3,dy4⟩ rfl (fun K hK=>?_)
 go_wp2_with fail
 refine (pbhE_any (.slice none 0 0) 0 [] x0 x1 x2 x3 x4 w.heap.size _ (World.ownsRow_nil _ _ _ _) (by omega) (by omega)).mono ?_
 rintro e1 w1 ⟨v1,rfl,ho1,hg1,at1⟩
 go_wp2_with fail
 obtain ⟨a1,c1,rfl⟩:=own_shape ho1
 have g1:wd.grownBy w1 none:=hg1
 have far1:∀ g,(Value.slice a1 1 c1).ownBlock=some g→wd.heap.size≤g:=fun g e=>at1.elim (fun x=>by rw [e] at x;cases x) (fun ⟨g',x,y⟩=>by rw [e] at x;cases x;exact y)
 have b1:Below wd.heap.size wd w1:=(Below.refl _ wd).grown g1 (Nat.le_refl _) (fun r e=>by cases e)
 have Ex:=Dx.below b1
 have Ey:=Dy.below b1
 have EY:=DY.below b1
 have ex0:=Ex.cell 0 _ rfl
 have ex1:=Ex.cell 1 _ rfl
 have ex2:=Ex.cell 2 _ rfl
 have ex3:=Ex.cell 3 _ rfl
 have ex4:=Ex.cell 4 _ rfl
 have ey0:=Ey.cell 0 _ rfl
 have ey1:=Ey.cell 1 _ rfl
 have ey2:=Ey.cell 2 _ rfl
 have ey3:=Ey.cell 3 _ rfl
 have ey4:=Ey.cell 4 _ rfl
 refine consC (i:=7) (by kernel_rfl) (by kernel_rfl) ⟨ex0,ex1,ex2,ex3,ex4,ey0,ey1,ey2,ey3,ey4⟩ rfl (fun K hK=>?_)
 go_wp2_with fail
 refine (pbhE_any (.slice a1 1 c1) 1 _ y0 y1 y2 y3 y4 w.heap.size _ ho1 (by have:=b1.size;omega) (by omega)).mono ?_
 rintro e2 w2 ⟨v2,rfl,ho2,hg2,hat2⟩
 go_wp2_with fail
 obtain ⟨a2,c2,rfl⟩:=own_shape ho2
 have b2:Below w.heap.size w1 w2:=(Below.refl _ w1).grown hg2 (by have:=b1.size;omega) (fun r e=>by have:=own_far ho1 r e;exact this)
 have n2:∀ B t c,SBox w1 B t c→t≠54→SBox w2 B t c:=fun B t c h ht=>(hg2.block B h.lt (block_not_row h ht ho1)).trans h
 have n3:∀ B c,SBox w1 B 54 c→B < wd.heap.size→SBox w2 B 54 c:=fun B c h hl=>(hg2.block B h.lt (fun e=>by have:=far1 B e.symm;omega)).trans h
 have Fx:=n3 _ _ Ex (by omega)
 have Fy:=n3 _ _ Ey (by omega)
 have FY:=n2 _ _ _ EY (by decide)
 have fx0:=Fx.cell 0 _ rfl
 have fx1:=Fx.cell 1 _ rfl
 have fx2:=Fx.cell 2 _ rfl
 have fx3:=Fx.cell 3 _ rfl
 have fx4:=Fx.cell 4 _ rfl
 have fy0:=Fy.cell 0 _ rfl
 have fy1:=Fy.cell 1 _ rfl
 have fy2:=Fy.cell 2 _ rfl
 have fy3:=Fy.cell 3 _ rfl
 have fy4:=Fy.cell 4 _ rfl
 have BW:Below w.heap.size w w2:=(bel_trans Bd b1).trans b2
 refine takeC (i:=8) (v:=.agg #[.int .i64 x1,.int .i64 y2,.slice a2 2 c2]) rfl (by kernel_rfl) (by kernel_rfl) (by kernel_rfl) (by kernel_rfl) (by kernel_rfl) (fun _ _ _ h=>h) (Or.inl ⟨by kernel_rfl,fun V hV=>by obtain ⟨r0,r1,r2,r3,r4,r5,r6,r7,r8,r9⟩:=hV;go_simp⟩) ?_
 have k0:=FY.cell 0 _ rfl
 have k1:=FY.cell 1 _ rfl
 have k2:=FY.cell 2 _ rfl
 have m0:=FY.frozen 0
 have m1:=FY.frozen 1
 have m2:=FY.frozen 2
 refine lastC (by kernel_rfl) (by kernel_rfl) ⟨fx0,fx1,fx2,fx3,fx4,fy0,fy1,fy2,fy3,fy4⟩ (of_decide_eq_true (by kernel_rfl)) ?_
 refine any_seqI [9] [_] _ _ _ rfl (by kernel_rfl) ?_
 go_wp2_with fail
 generalize hW:World.setCell _ _ _=W
 have RW:SBox W (w.heap.size+1+1) 69 #[.int .i64 x1,.int .i64 y2,.slice a2 2 c2]:=by rw [← hW];exact SBox.put3 FY _ _ _
 have BZ:Below w.heap.size w W:=by rw [← hW];exact ((BW.setCell (p:=⟨w.heap.size+1+1,0,none⟩) (by first | (simp;done) | (simp;omega)) _).setCell (p:=⟨w.heap.size+1+1,1,none⟩) (by first | (simp;done) | (simp;omega)) _).setCell (p:=⟨w.heap.size+1+1,2,none⟩) (by first | (simp;done) | (simp;omega)) _
 have hRow:W.ownsRow w.heap.size 54 5 (.slice a2 2 c2) 2 (recV edV [(x0,x1,x2,x3,x4),(y0,y1,y2,y3,y4)]):=by
  rw [← hW]
  have hne:(Value.slice a2 2 c2).ownBlock≠some (w.heap.size+1+1):=fun e=>block_not_row FY (by decide) ho2 e.symm
  exact owns_set3 ho2 0 hne _ _ _
 exact bodyPost_ret (v:=.agg #[.int .i64 x1,.int .i64 y2,.slice a2 2 c2]) (results_row1 Tryz.results101 _ _ (w.heap.size+1+1) 69 _ (0,0) _ rfl RW Tryz.underlying69 rfl size_st) rfl ⟨_,_,rfl,BZ,hRow⟩
structure GSt (w:World) (sl v:Value) (L:List Ed) (W:World):Prop where
 below:Below w.heap.size w W
 size:w.heap.size+1+1≤W.heap.size
 b0:Boxed W w.heap.size 22 sl
 bv:Boxed W (w.heap.size+1) 26 v
 row:W.ownsRow w.heap.size 54 5 v L.length (recV edV L)
 far:∀ g,v.ownBlock=some g→w.heap.size+1+1≤g
theorem GSt.bel {w:World} {sl v:Value} {L:List Ed} {W W':World} (h:GSt w sl v L W) (hb:Below W.heap.size W W'):GSt w sl v L W' :=
 ⟨bel_trans h.below hb,Nat.le_trans h.size hb.size,boxed_below7 h.b0 hb,boxed_below7 h.bv hb,owns_below h.row hb,h.far⟩
def FrG (W W':World):Prop:=W.heap.size≤W'.heap.size∧∀ (j:Nat) (cs:Array Value) (t:TypeId) (fr:Nat × Nat),t≠54→t≠26→W.heap[j]?=some (.cells cs t fr)→W'.heap[j]?=some (.cells cs t fr)
theorem FrG.refl (W:World):FrG W W:=⟨Nat.le_refl _,fun _ _ _ _ _ _ h=>h⟩
theorem FrG.trans {a b c:World} (h:FrG a b) (k:FrG b c):FrG a c:=⟨Nat.le_trans h.1 k.1,fun j cs t fr h1 h2 h3=>k.2 j cs t fr h1 h2 (h.2 j cs t fr h1 h2 h3)⟩
theorem FrG.of_below {W W':World} (hb:Below W.heap.size W W'):FrG W W':=⟨hb.size,fun j cs t fr _ _ h3=>(hb.block j (Array.getElem?_eq_some_iff.1 h3).1).trans h3⟩
theorem FrG.boxed {W W':World} {b t:Nat} {v:Value} (h:FrG W W') (hb:Boxed W b t v) (h1:t≠54) (h2:t≠26):Boxed W' b t v:=h.2 b _ t _ h1 h2 hb
theorem FrG.owns {W W':World} {B e k n:Nat} {v:Value} {xs:List Value} (h:FrG W W') (ho:W.ownsRow B e k v n xs) (h1:e≠54) (h2:e≠26):W'.ownsRow B e k v n xs:=by
 refine ⟨ho.1,?_⟩
 rcases ho.2 with hh | ⟨g,cap,cur,hv,hb,hg,rest⟩
 ·exact .inl hh
 ·exact .inr ⟨g,cap,cur,hv,hb,h.2 g _ _ _ h1 h2 hg,rest⟩
def gEd (h:List Ev) (k:Int) (i j:Nat):List Ed:=if (ev h i).2.1=(ev h j).2.1 then [] else [(k,(ev h i).2.1,(ev h j).2.1,(i:Int),(j:Int))]
theorem gEd_len (h:List Ev) (k:Int) (i j:Nat):(gEd h k i j).length≤1:=by unfold gEd;by_cases e:(ev h i).2.1=(ev h j).2.1<;>simp [e]
def GRes (w:World) (sl:Value) (W:World) (L:List Ed) (e:Ending) (W':World):Prop:=e=.returned (.tuple #[])∧FrG W W'∧∃ v',GSt w sl v' L W'
theorem GSt.gain {w:World} {sl v v':Value} {L L':List Ed} {W W':World} (h:GSt w sl v L W) (hown:W'.ownsRow w.heap.size 54 5 v' L'.length (recV edV L')) (hg:W.grownBy W' v.ownBlock) (hat:v'.ownBlock=v.ownBlock∨∃ g,v'.ownBlock=some g∧W.heap.size≤g) :
 GSt w sl v' L' (W'.setCell ⟨w.heap.size+1,0,none⟩ v')∧FrG W (W'.setCell ⟨w.heap.size+1,0,none⟩ v'):=by
 have hs:=h.size
 have hfar:∀ g,v'.ownBlock=some g→w.heap.size+1+1≤g:=fun g hv=>by
  rcases hat with e | ⟨g',e,e2⟩
  ·exact h.far g (by rw [← e];exact hv)
  ·rw [hv] at e
   have:=Option.some.inj e
   omega
 have o:∀ j,j < w.heap.size+1+1→some j≠v.ownBlock:=fun j hj e=>by have:=h.far j e.symm;omega
 have hsz:=hg.size
 have hb:Below w.heap.size w W':=h.below.grown hg (by omega) (fun r e=>by have:=h.far r e;omega)
 have bv':=h.bv.kept hg (o _ (by omega))
 refine ⟨⟨hb.setCell (p:=⟨w.heap.size+1,0,none⟩) (Nat.le_add_right _ _) _,by simp;omega,?_,bv'.set _,owns_keep7 (g:=w.heap.size+1) (j:=0) hown _ (fun e=>by have:=hfar _ e.symm;omega),hfar⟩,by simp;omega,fun j cs t fr h1 h2 h3=>?_⟩
 ·show _=_
  rw [Below.heap_setCell _ _ _ _ (show w.heap.size≠w.heap.size+1 by omega)]
  exact h.b0.kept hg (o _ (by omega))
 ·have hlt:=(Array.getElem?_eq_some_iff.1 h3).1
  have n1:j≠w.heap.size+1:=fun e=>by
   subst e
   have:=h.bv
   unfold Boxed at this
   rw [h3] at this
   simp only [Option.some.injEq,Obj.cells.injEq] at this
   exact h2 this.2.1
  have n2:some j≠v.ownBlock:=by
   rcases h.row.2 with ⟨e,_⟩ | ⟨g,cp,cur,e,_,hgb,_⟩
   ·rw [e];simp [Value.ownBlock]
   ·rw [e]
    intro e2
    have e3:j=g:=Option.some.inj e2
    subst e3
    rw [h3] at hgb
    simp only [Option.some.injEq,Obj.cells.injEq] at hgb
    exact h1 hgb.2.1
  rw [Below.heap_setCell _ _ _ _ n1,hg.block j hlt n2]
  exact h3
set_option maxHeartbeats 2000000 in
theorem pgather_any (h:List Ev) (w:World) (a:Option Addr) (cap:Nat) (hT:IsEvs w (.slice a h.length cap) h) (v:Value) (L:List Ed) (W:World) (hS:GSt w (.slice a h.length cap) v L W) (k:Int) (i j:Nat) (hi:i < h.length) (hj:j < h.length) (hL:L.length≤1000000) :
 Calls Tryz.prog 71 #[.int .i64 k,.int .i64 (i:Int),.int .i64 (j:Int),.pointer (some ⟨w.heap.size,0,none⟩),.pointer (some ⟨w.heap.size+1,0,none⟩)] W fun e W'=>GRes w (.slice a h.length cap) W (L++gEd h k i j) e W':=by
 obtain ⟨a',cap',e1,h1,h2,h3,HC⟩:=hT.reads
 obtain ⟨rfl,rfl⟩:a'=a∧cap'=cap:=by simpa [eq_comm] using e1
 clear e1
 obtain ⟨bb,off,rfl,HQ⟩:=HC.out (by omega)
 obtain ⟨_,c1,_,_⟩:=HQ.out i hi _ hS.below
 obtain ⟨_,d1,_,_⟩:=HQ.out j hj _ hS.below
 unfold gEd
 obtain ⟨x1,hx⟩:∃ x,(ev h i).2.1=x:=⟨_,rfl⟩
 obtain ⟨y1,hy⟩:∃ x,(ev h j).2.1=x:=⟨_,rfl⟩
 rw [hx] at c1 ⊢
 rw [hy] at d1 ⊢
 obtain ⟨n,hn⟩:∃ n,h.length=n:=⟨_,rfl⟩
 rw [hn] at hS hi hj h1 h3 ⊢
 clear hx hy hT HC HQ hn
 have p0:=hS.b0.cell
 have ji:(i:Int) < (n:Int):=by omega
 have jj:(j:Int) < (n:Int):=by omega
 by_cases e:x1=y1
 ·subst e
  rw [if_pos rfl,List.append_nil]
  go_enter Tryz.func71,Tryz.ntmps71
  go_wp2_with fail
  go_quiet (fail)
  go_wp2_with fail
  go_end0
  have bq:=below_drewN (Below.refl W.heap.size W) nq
  exact ⟨rfl,FrG.of_below bq,v,hS.bel bq⟩
 ·rw [if_neg e]
  have e2:(x1 != y1)=true:=bne_iff_ne.2 e
  clear e
  go_enter Tryz.func71,Tryz.ntmps71
  go_wp2_with fail
  go_quiet (fail)
  generalize hV:World.drewN _ _=V
  have bq:Below W.heap.size W V:=by rw [← hV];exact below_drewN (Below.refl W.heap.size W) nq
  clear hV p0 c1 d1
  have hS2:=hS.bel bq
  have q1:=hS2.bv.cell
  obtain ⟨ad,cc,rfl⟩:=own_shape hS2.row
  go_wp2_with fail
  refine (pbhE_any _ L.length _ k x1 y1 (i:Int) (j:Int) w.heap.size _ hS2.row hS2.below.size (by omega)).mono ?_
  rintro e3 w3 ⟨r3,rfl,hown3,hg3,hat3⟩
  have hown4:w3.ownsRow w.heap.size 54 5 r3 (L++[(k,x1,y1,(i:Int),(j:Int))]).length (recV edV (L++[(k,x1,y1,(i:Int),(j:Int))])):=by rw [List.length_append,recV_append];exact hown3
  obtain ⟨g1,g2⟩:=hS2.gain hown4 hg3 hat3
  have bv3:=hS2.bv.kept hg3 (fun e=>by have:=hS2.far _ e.symm;omega)
  have q2:=bv3.cell
  have q3:=bv3.frozen
  obtain ⟨ad3,cc3,rfl⟩:=own_shape hown3
  go_wp2_with fail
  go_end0
  exact ⟨rfl,(FrG.of_below bq).trans g2,_,g1⟩
abbrev readF10 (b c:Nat):Value:=.func (.func 121) #[] #[.pointer (some ⟨b,0,none⟩),.pointer (some ⟨c,0,none⟩)]
set_option maxHeartbeats 2000000 in
theorem pread1_any (h:List Ev) (sl:Value) (W:World) (hT:IsEvs W sl h) (b c q p:Nat) (hq:q < h.length) (hp:p < h.length) (B1:Boxed W b 22 sl) (B2:Boxed W c 3 (.int .i64 (q:Int))) :
 Calls Tryz.prog 121 #[.int .i64 (p:Int),.pointer (some ⟨b,0,none⟩),.pointer (some ⟨c,0,none⟩)] W fun e W'=>e=.returned (.bool (decide ((ev h p).2.2.2=(ev h q).2.2.2)))∧Below W.heap.size W W':=by
 obtain ⟨a,cap,rfl,h1,h2,h3,HC⟩:=hT.reads
 obtain ⟨bb,off,rfl,HQ⟩:=HC.out (by omega)
 obtain ⟨_,_,_,c3⟩:=HQ.out q hq _ (Below.refl _ _)
 obtain ⟨_,_,_,d3⟩:=HQ.out p hp _ (Below.refl _ _)
 obtain ⟨x,hx⟩:∃ x,(ev h p).2.2.2=x:=⟨_,rfl⟩
 obtain ⟨y,hy⟩:∃ x,(ev h q).2.2.2=x:=⟨_,rfl⟩
 rw [hx] at d3 ⊢
 rw [hy] at c3 ⊢
 obtain ⟨n,hn⟩:∃ n,h.length=n:=⟨_,rfl⟩
 rw [hn] at B1 hq hp h1 h3
 clear hx hy hT HC HQ hn
 have p0:=B1.cell
 have p1:=B2.cell
 have ji:(q:Int) < (n:Int):=by omega
 have jj:(p:Int) < (n:Int):=by omega
 by_cases e:x=y
 ·subst e
  rw [decide_eq_true rfl]
  go_enter Tryz.func121,Tryz.ntmps121
  go_wp2_with fail
  go_quiet (fail)
  go_wp2_with fail
  go_ret
  exact ⟨rfl,below_drewN (Below.refl _ _) nq⟩
 ·rw [decide_eq_false e]
  have e2:(x==y)=false:=beq_eq_false_iff_ne.2 e
  go_enter Tryz.func121,Tryz.ntmps121
  go_wp2_with fail
  go_quiet (fail)
  go_wp2_with fail
  go_ret
  exact ⟨rfl,below_drewN (Below.refl _ _) nq⟩
set_option maxHeartbeats 2000000 in
theorem pidx_any (h:List Ev) (sl vs:Value) (V:List Nat) (W:World) (hT:IsEvs W sl h) (b c q:Nat) (hq:q < h.length) (hV:∀ x∈V,x < h.length) (hvs:IsInts W vs (V.map Int.ofNat)) (B1:Boxed W b 22 sl) (B2:Boxed W c 3 (.int .i64 (q:Int))) :
 Calls Tryz.prog 115 #[vs,readF10 b c] W fun e W'=>e=.returned (.int .i64 (oI (verAt h V q)))∧Below W.heap.size W W':=by
 have C:=fun (p:Nat) (hp:p < h.length) V' (hV':Below W.heap.size W V')=>pread1_any h sl V' (hT.below hV') b c q p hq hp (boxed_below7 B1 hV') (boxed_below7 B2 hV')
 obtain ⟨a,cap,rfl,h1,h2,h3,HC⟩:=hvs.reads
 rw [List.length_map] at h1 h3 HC ⊢
 rw [verAt_is]
 obtain ⟨n,hn⟩:∃ n,V.length=n:=⟨_,rfl⟩
 have HN:Hid (V.length=n):=hn
 rw [hn] at h1 h3 ⊢
 clear hn hvs
 go_enter Tryz.func115,Tryz.ntmps115
 go_wp2_with fail
 go_loopw [8] (fun i wr=>∃ k:Nat,k≤n∧i=.int .i64 k∧Hid (∀ j,j < k→isVer h V q j=false)∧Below W.heap.size W wr) (fun i _=>n - (intOf i).toNat)
 case atStart=>exact ⟨0,Nat.zero_le _,rfl,fun j hj=>absurd hj (by omega),Below.refl _ _⟩
 case round =>
  obtain ⟨k,hk,rfl,HF,hB⟩:=hrel
  by_cases hlt:k < n
  ·have j0:(k:Int) < (n:Int):=by omega
   have hkl:k < V.length:=by have:=HN.out;omega
   obtain ⟨bb,off,rfl,HQ⟩:=HC.out (by omega)
   have c0:=HQ.out k hkl _ hB
   have e0:(V.map Int.ofNat).getD k 0=(vAt V k:Int):=by
    unfold vAt
    rw [List.getD_eq_getElem?_getD,List.getD_eq_getElem?_getD,List.getElem?_map,List.getElem?_eq_getElem hkl]
    rfl
   rw [e0] at c0
   have hp:vAt V k < h.length:=by
    refine hV _ ?_
    unfold vAt
    rw [List.getD_eq_getElem?_getD,List.getElem?_eq_getElem hkl]
    exact List.getElem_mem _
   have D:=C (vAt V k) hp _ hB
   have HI:Hid (isVer h V q k=decide ((ev h (vAt V k)).2.2.2=(ev h q).2.2.2)):=rfl
   obtain ⟨p,hpp⟩:∃ p,vAt V k=p:=⟨_,rfl⟩
   rw [hpp] at c0 D HI
   obtain ⟨bl,hbl⟩:∃ bl,decide ((ev h p).2.2.2=(ev h q).2.2.2)=bl:=⟨_,rfl⟩
   rw [hbl] at D HI
   clear hbl hpp hp e0
   cases bl with
   | true =>
     go_wp2_with fail
     refine D.mono ?_
     rintro e1 w1 ⟨rfl,b1⟩
     have HE:Hid (fi (isVer h V q) n=some k):=(fi_some _ _ _).2 ⟨hlt,HI.out,HF.out⟩
     go_wp2_with fail
     go_ret
     refine ⟨?_,bel_trans hB b1⟩
     rw [HE.out]
     rfl
   | false =>
     go_wp2_with fail
     refine D.mono ?_
     rintro e1 w1 ⟨rfl,b1⟩
     go_wp2_with fail
     refine ⟨⟨k+1,by omega,by first | go_num | simp,?_,bel_trans hB b1⟩,by simp [intOf];omega⟩
     intro j hj
     rcases Nat.lt_succ_iff_lt_or_eq.1 hj with h' | rfl
     ·exact HF.out j h'
     ·exact HI.out
  ·obtain rfl:k=n:=by omega
   have jq:¬ (k:Int) < (k:Int):=by omega
   have HE:Hid (fi (isVer h V q) k=none):=(fi_none _ _).2 HF.out
   go_wp2_with fail
   go_ret
   refine ⟨?_,hB⟩
   rw [HE.out]
   rfl
end Go.Proofs.YtiihegldhnlleaaGreat
namespace Go.Proofs.YtiihegldhnlleaaGreat
set_option maxRecDepth 100000
open Go.RowKit
set_option linter.unusedVariables false
section
variable {P:Program} {ops:Array Oper} {md:Region.Mode} {Q:Exit→Act→World→Prop}
def chainW (md:Region.Mode) (ops:Array Oper):Nat→List Nat→Bool
 | _,[]=>true
 | i,m::ms=>Region.waitsFor md ops m i&&chainW md ops m ms
def unlB (listed:Array Bool) (ms:List Nat):Bool:=ms.all fun m=>listed.getD m false==false
theorem unlB_iff (listed:Array Bool) (ms:List Nat):unlB listed ms=true↔∀ m∈ms,listed.getD m false=false:=by
 unfold unlB
 rw [List.all_eq_true]
 exact ⟨fun h m hm=>by simpa using h m hm,fun h m hm=>by simpa using h m hm⟩
theorem chain_not (listed:Array Bool) (j:Nat) (hj:j∈Region.ready md ops listed):∀ (ms:List Nat) (i:Nat),listed.getD i false=false→(∀ m∈ms,listed.getD m false=false)→chainW md ops i ms=true→j ∉ ms
 | [],_,_,_,_=>by simp
 | m::ms,i,hi,hu,hc=>by
   rw [chainW,Bool.and_eq_true] at hc
   intro hm
   rcases List.mem_cons.1 hm with e | e
   ·subst e
    obtain ⟨o',ho',e,he,hb,hon⟩:=Region.waitsFor_spec hc.1
    obtain ⟨_,oj,hoj,hall⟩:=mem_ready.1 hj
    obtain rfl:o'=oj:=Option.some.inj (ho'.symm.trans hoj)
    have h4:=hall e he hb
    rw [hon,hi] at h4
    cases h4
   ·exact chain_not listed j hj ms m (hu m (List.mem_cons_self ..)) (fun x hx=>hu x (List.mem_cons_of_mem _ hx)) hc.2 e
theorem firstCC {C:World→Prop} {d i:Nat} {ms:List Nat} {oi:Oper} {v:Value} (hi:ops[i]?=some oi) (hsel:∀ (j:Nat) (o:Oper) cs b,ops[j]?=some o→o.op≠.select cs b)
 (hc:chainW md ops i ms=true) (hdm:d∈ms) (hQ:∀ c a w,Q (.panic c) (a.put oi.dst v) w→Q (.panic c) a w) :
 ∀ (f:Nat) (listed:Array Bool) (a:Act) (w:World),(∀ m∈ms,listed.getD m false=false) →
   (∀ j oj,ops[j]?=some oj→j≠i→listed.getD j true=false→(∀ e∈oj.after,Region.binds md e=true→e.on≠i)→oi.apart ops oj=true) →
   i∈Region.ready md ops listed→YieldsC C P ops oi v a →
   wpAnyC C d P md ops Q f (listed.setIfInBounds i true) (a.put oi.dst v) w→wpAnyC C d P md ops Q (f+1) listed a w:=by
 have hnm:∀ (listed:Array Bool) j,i∈Region.ready md ops listed→(∀ m∈ms,listed.getD m false=false)→j∈Region.ready md ops listed→j ∉ ms:=fun listed j hr hu hj =>
  chain_not listed j hj ms i (getD_both (mem_ready.1 hr).1) hu hc
 intro f
 induction f with
 | zero =>
   intro listed a w hml _ hr hy H
   have hdl:=hml d hdm
   have hid:i≠d:=fun e=>hnm listed i hr hml hr (by rw [e];exact hdm)
   refine .inr ⟨hdl,H.2 (by rw [getD_set_ne false hid];exact hdl),fun h=>(by rw [h] at hr;cases hr),fun j hj=>?_⟩
   by_cases hji:j=i
   ·subst hji;exact hy.op hi (H.2 (by rw [getD_set_ne false hid];exact hdl)) H
   ·have:=ready_mono hj hji
    rw [H.1.1] at this
    cases this
 | succ f ih =>
   intro listed a w hml hfree hr hy H
   have hdl:=hml d hdm
   have hid:i≠d:=fun e=>hnm listed i hr hml hr (by rw [e];exact hdm)
   rcases H with H | H
   ·rw [getD_set_ne false hid,hdl] at H;cases H.1
   ·obtain ⟨hd1,hC,hn,H⟩:=H
    refine .inr ⟨hdl,hC,fun h=>(by rw [h] at hr;cases hr),fun j hj=>?_⟩
    by_cases hji:j=i
    ·subst hji;exact hy.op hi hC (.inr ⟨hd1,hC,hn,H⟩)
    ·have h1:=H j (ready_mono hj hji)
     obtain ⟨hjun,oj,hoj,hall⟩:=mem_ready.1 hj
     have hnot:∀ e∈oj.after,Region.binds md e=true→e.on≠i:=fun e he hb heq=>by
      have h1:=hall e he hb
      rw [heq,getD_both (mem_ready.1 hr).1] at h1
      cases h1
     have h2:=wpOp_putC hoj (hfree j oj hoj hji hjun hnot) (fun cs b=>hsel i oi cs b hi) (fun cs b=>hsel j oj cs b hoj) hQ hy h1
     have hjm:=hnm listed j hr hml hj
     refine wpOp_mono (fun a' w' h3=>ih (listed.setIfInBounds j true) a' w' (fun m hm=>by rw [getD_set_ne false (fun e=>hjm (by rw [e];exact hm))];exact hml m hm) (fun k ok hk hki hku hno=>?_) (ready_mono hr (Ne.symm hji)) h3.1 ?_) h2
     ·refine hfree k ok hk hki ?_ hno
      by_cases hjk:j=k
      ·subst hjk;exact hjun
      ·rw [getD_set_ne true hjk] at hku;exact hku
     ·rw [Array.setIfInBounds_comm _ _ hji]
      exact h3.2
theorem takeCC {C:World→Prop} {d i:Nat} (ms:List Nat) {oi:Oper} {v:Value} {f:Nat} {listed:Array Bool} {a:Act} {w:World} (hi:ops[i]?=some oi)
 (hs:Region.noSelect ops=true) (hf:Region.free md ops listed i=true) (hr:(Region.ready md ops listed).contains i=true) (hc:chainW md ops i ms=true) (hd:ms.contains d=true) (hml:unlB listed ms=true)
 (hQ:∀ c a w,Q (.panic c) (a.put oi.dst v) w→Q (.panic c) a w) (hy:YieldsC C P ops oi v a)
 (h:wpAnyC C d P md ops Q f (listed.setIfInBounds i true) (a.put oi.dst v) w):wpAnyC C d P md ops Q (f+1) listed a w :=
 firstCC hi (Region.noSelect_spec hs) hc (by simpa using hd) hQ f listed a w ((unlB_iff _ _).1 hml) (Region.free_spec hi hf) (by simpa using hr) hy h
end
end Go.Proofs.YtiihegldhnlleaaGreat
namespace Go.Proofs.YtiihegldhnlleaaGreat
set_option maxRecDepth 100000
set_option linter.unusedVariables false
abbrev endE (y:Ev):Prop:=y.1=4∨y.1=5
def endedIn (h:List Ev) (pre:List (Fin h.length)) (t:Int):Bool:=pre.any fun j=>decide (h[j.val].2.1=t∧endE h[j.val])
def livG (h:List Ev):List (Fin h.length)→List (Fin h.length)→List (Fin h.length)
 | _,[]=>[]
 | seen,x::r=>if endedIn h seen h[x.val].2.1=true then livG h (seen++[x]) r else x::livG h (seen++[x]) r
def livF (h:List Ev) (pre:List (Fin h.length)):List (Fin h.length):=livG h [] pre
def livP (h:List Ev):List (Fin h.length):=livF h (List.finRange h.length)
theorem livG_append (h:List Ev):∀ (l seen r:List (Fin h.length)),livG h seen (l++r)=livG h seen l++livG h (seen++l) r
 | [],seen,r=>by simp [livG]
 | y::l,seen,r=>by
   show livG h seen (y::(l++r))=_
   rw [livG,livG,livG_append h l (seen++[y]) r]
   by_cases he:endedIn h seen h[y.val].2.1=true
   ·rw [if_pos he,if_pos he];simp
   ·rw [if_neg he,if_neg he];simp
theorem livF_snoc_dead (h:List Ev) (pre:List (Fin h.length)) (x:Fin h.length) (he:endedIn h pre h[x.val].2.1=true):livF h (pre++[x])=livF h pre:=by
 unfold livF
 rw [livG_append,List.nil_append,livG,if_pos he,livG,List.append_nil]
theorem livF_snoc (h:List Ev) (pre:List (Fin h.length)) (x:Fin h.length) (he:endedIn h pre h[x.val].2.1=false):livF h (pre++[x])=livF h pre++[x]:=by
 unfold livF
 rw [livG_append,List.nil_append,livG,if_neg (by rw [he];simp),livG]
theorem livG_len (h:List Ev):∀ (l seen:List (Fin h.length)),(livG h seen l).length≤l.length
 | [],seen=>Nat.le_refl _
 | y::l,seen=>by
   rw [livG]
   have:=livG_len h l (seen++[y])
   by_cases he:endedIn h seen h[y.val].2.1=true
   ·rw [if_pos he];simp only [List.length_cons];omega
   ·rw [if_neg he];simp only [List.length_cons];omega
theorem livF_len (h:List Ev) (pre:List (Fin h.length)):(livF h pre).length≤pre.length:=livG_len h pre []
theorem livF_prefix (h:List Ev) {pre q:List (Fin h.length)} (hp:pre <+: q):livF h pre <+: livF h q:=by
 obtain ⟨r,rfl⟩:=hp
 unfold livF
 rw [livG_append]
 exact List.prefix_append _ _
theorem endedIn_snoc (h:List Ev) (pre:List (Fin h.length)) (x:Fin h.length) (t:Int):endedIn h (pre++[x]) t=(endedIn h pre t || decide (h[x.val].2.1=t∧endE h[x.val])):=by
 unfold endedIn
 rw [List.any_append]
 simp
theorem endedIn_take (h:List Ev) (k:Nat) (hk:k≤h.length) (t:Int):endedIn h ((List.finRange h.length).take k) t=(endL h t k).isSome:=by
 rw [Bool.eq_iff_iff]
 unfold endedIn
 rw [List.any_eq_true]
 constructor
 ·rintro ⟨j,hj,hd⟩
  have hjk:j.val < k:=by
   obtain ⟨i,hi,rfl⟩:=List.mem_take_iff_getElem.1 hj
   simp at hi ⊢
   omega
  rw [decide_eq_true_eq] at hd
  cases he:endL h t k with
  | some e=>rfl
  | none =>
    have:=(fi_none _ _).1 he j.val hjk
    unfold isEnd at this
    rw [decide_eq_false_iff_not,ev_get h _ j.isLt] at this
    exact absurd hd this
 ·intro hs
  obtain ⟨e,he⟩:=Option.isSome_iff_exists.1 hs
  obtain ⟨h1,h2,h3⟩:=(fi_some _ _ _).1 he
  unfold isEnd at h2
  rw [decide_eq_true_eq,ev_get h _ (by omega)] at h2
  exact ⟨⟨e,by omega⟩,List.mem_take_iff_getElem.2 ⟨e,by simp;omega,by simp⟩,decide_eq_true h2⟩
end Go.Proofs.YtiihegldhnlleaaGreat
namespace Go.Proofs.YtiihegldhnlleaaGreat
set_option maxRecDepth 100000
open Go.RowKit
set_option linter.unusedVariables false
def SeqStopsW {α:Type} (F:Fence) (n:Nat) (P:Program) (g:Nat) (lb:Array Value) (encs:α→Array Value) (Kp:World→World→Prop) (S Sp:List α→Prop) (N H l:Nat) (W:World):Prop :=
 ∀ J Jx:List α→World→Prop,OwnFrom W.heap.size J→OwnFrom W.heap.size Jx →
   (∀ pre x V,J pre V→pre.length < N→H≤V.heap.size→YieldAt F (n - 1) P l (encs x) V fun e V'=>(e=.returned (.bool true)∧J (pre++[x]) V'∧Kp V V'∧KeepsFrom W.heap.size V V')∨(e=.returned (.bool false)∧Jx (pre++[x]) V'∧KeepsFrom W.heap.size V V')) →
   J [] W→CallsIn F n P g (#[.func (.yield l) #[] #[]]++lb) W fun e V=>(∃ v,e=.returned v)∧((∃ xs,S xs∧J xs V)∨∃ pre,Sp pre∧Jx pre V)
theorem keeps_put {B l:Nat} {W:World} (o:Obj) (hl:l < B):KeepsFrom B W (W.putObj l o) :=
 KeepsFrom.of_grownBy (grownBy_putObj' W l o) (fun j e=>by cases e;exact hl)
theorem keeps_far {B B':Nat} {X Y:World} (h:KeepsFrom B X Y) (hb:B≤B'):KeepsFrom B' X Y:=⟨h.size,fun k o hk=>h.same k o (by omega)⟩
section
variable {F:Fence} {n:Nat} {P:Program} {w:World}
theorem rangeFunc_C {α:Type} {g:Operand} {ps:Array Tmp} {assign body:Code} {Q:Exit→Act→World→Prop} {a:Act}
 (hro:F.round=none) (h1:1≤n) {gf:Nat} {lb:Array Value} (hg:a.eval g=.func (.func gf) #[] lb) (hFg:F.fn gf) (eg:∀ args w,(callFunc gf args).run P w=.ok (.enter gf args) w)
 {encs:α→Array Value} {Kp:World→World→Prop} {S Sp:List α→Prop} {N H:Nat}
 (hseq:∀ V,Below w.heap.size w V→V.heap.size=w.heap.size+1+1→SeqStopsW F (n - 1) P gf lb encs Kp S Sp N H (w.heap.size+1) V)
 (hKt:∀ {A B C:World},Kp A B→Kp B C→Kp A C) (hKb:∀ (W:World) (o o':Loop),W.heap[w.heap.size+1]?=some (.loop o)→Kp W (W.putObj (w.heap.size+1) (.loop o'))) (hps:∀ x,(encs x).size=ps.size)
 (I:List α→World→Prop) (Ix:Code→List α→World→Prop) (hI:OwnFrom w.heap.size I) (hIx:∀ c,OwnFrom w.heap.size (Ix c)) (h0:I [] w)
 (Ax:α→Act→World→Prop) (hAx:∀ x a',OwnFrom w.heap.size (fun (_:Unit) W=>Ax x a' W))
 (hassign:∀ (l:Nat) (pre:List α) (x:α) (W:World) (K:Act→World→Prop),I pre W→H≤W.heap.size→(∀ a' W',KeepsFrom w.heap.size W W'→Kp W W'→I pre W'→Ax x a' W'→K a' W') →
  assign.wpIn (F.inRound l) (n - 1 - 1) P (Exit.then K (fun _ _ _=>False)) { tmps:=(ps.zip (encs x)).foldl (fun t (p,v)=>t.setIfInBounds p v) a.tmps,defers:=[] } W)
 (hbody:∀ (l:Nat) (pre:List α) (x:α) (a':Act) (W:World),I pre W→H≤W.heap.size→Ax x a' W→pre.length < N→body.wpIn (F.inRound l) (n - 1 - 1) P (ownPostG w.heap.size Kp I Ix (pre++[x]) W) a' W)
 (hdone:∀ (D:Nat) (xs:List α) (W:World),w.heap.size≤D→S xs→I xs W→W.heap[D]?=some (.deferred (some []))→Q .normal { a with defers:={ target:=.collected D,args:=#[] }::a.defers } W)
 (hstop:∀ (D:Nat) (c:Code) (pre:List α) (W:World),w.heap.size≤D→Sp pre→Ix c pre W→W.heap[D]?=some (.deferred (some []))→c.wpIn F n P Q { a with defers:={ target:=.collected D,args:=#[] }::a.defers } W) :
 (Code.rangeFunc g ps assign body).wpIn F n P Q a w:=by
 refine wpIn_rangeFunc ?_
 intro fn hfn
 rw [hro]
 obtain ⟨R,hR⟩:∃ R:LoopState→Option Code→Loop,R=fun st pe=>{ state:=st,pending:=pe,fn,tmps:=a.tmps,params:=ps,assign,body,defers:=w.heap.size }:=⟨_,rfl⟩
 obtain ⟨V,hV⟩:∃ V,(w.alloc (.deferred (some []))).alloc (.loop (R .ready none))=V:=⟨_,rfl⟩
 have vs:V.heap.size=w.heap.size+1+1:=by rw [← hV];simp
 have vl:V.heap[w.heap.size+1]?=some (.loop (R .ready none)):=by
  have:=World.alloc_heap_new (w.alloc (.deferred (some []))) (.loop (R .ready none))
  rw [World.size_alloc] at this
  rw [← hV];exact this
 have vd:V.heap[w.heap.size]?=some (.deferred (some [])):=by
  rw [← hV];exact (Below.heap_alloc _ _ _ (by simp)).trans (World.alloc_heap_new w _)
 have vb:Below w.heap.size w V:=by rw [← hV];exact ((Below.refl _ w).alloc (Nat.le_refl _) _).alloc (by simp) _
 have vI:I [] V:=by rw [← hV];exact hI.alloc _ (hI.alloc _ h0)
 refine ⟨w.heap.size+1,[{ target:=.collected w.heap.size,args:=#[] }],V,{ target:=.fn (.func gf) lb,args:=#[.func (.yield (w.heap.size+1)) #[] #[]] },V,gf,#[.func (.yield (w.heap.size+1)) #[] #[]]++lb,V,?_,?_,?_,?_,fun _=>h1,?_⟩
 ·rw [← hV,hR];exact run_enterLoop_outer _ _ _ _ _
 ·simp only [resolve,hg]
  simp [go_sem]
 ·intro f' hf';simp [Target.leads] at hf';subst hf';exact hFg
 ·simp [invoke,go_sem,eg]
 have far:∀ {A B:World} {row:Option Nat} {k:Nat} {o:Obj},A.grownBy B row→(∀ r,row=some r→V.heap.size≤r∧∃ o:Obj,A.heap[r]?=some o∧o.isCells=false)→k < V.heap.size→A.heap[k]?=some o→B.heap[k]?=some o:=fun hg' hr hk ho =>
  (hg'.block _ (Array.getElem?_eq_some_iff.1 ho).1 (fun e=>by have:=(hr _ e.symm).1;omega)).trans ho
 refine (hseq V vb vs (fun pre W=>I pre W∧W.heap[w.heap.size+1]?=some (.loop (R .ready none))∧W.heap[w.heap.size]?=some (.deferred (some [])))
  (fun pre W=>∃ c,Ix c pre W∧W.heap[w.heap.size+1]?=some (.loop (R .done (some c)))∧W.heap[w.heap.size]?=some (.deferred (some []))) ?ownJ ?ownX ?round ⟨vI,vl,vd⟩).mono ?behind
 case ownJ =>
  intro s A B row hs hg' hr
  exact ⟨hI s A B row hs.1 hg' (fun r e=>⟨by have:=(hr r e).1;omega,(hr r e).2⟩),far hg' hr (by omega) hs.2.1,far hg' hr (by omega) hs.2.2⟩
 case ownX =>
  intro s A B row hs hg' hr
  obtain ⟨c,hc,hl,hd⟩:=hs
  exact ⟨c,hIx c s A B row hc hg' (fun r e=>⟨by have:=(hr r e).1;omega,(hr r e).2⟩),far hg' hr (by omega) hl,far hg' hr (by omega) hd⟩
 case round =>
  rintro pre x W ⟨hi,hl,hd⟩ hlen hH
  have hy:=run_yield (P:=P) (args:=encs x) hl (by rw [hR];exact hps x)
  rw [hR] at hy
  refine ⟨fn,_,assign,body,hy,roundIn_of_wpIn hfn (hassign _ pre x W _ hi hH ?_)⟩
  clear hy
  intro a' A kA pA iA xA
  have hlA:=kA.same _ _ (by omega) hl rfl
  have hdA:=kA.same _ _ (Nat.le_refl _) hd rfl
  have zA:w.heap.size+1 < A.heap.size:=(Array.getElem?_eq_some_iff.1 hlA).1
  refine ⟨_,run_beginRound hlA (by rw [hR]),?_⟩
  obtain ⟨B,hB⟩:∃ B,A.putObj (w.heap.size+1) (.loop { R .ready none with state:=.busy })=B:=⟨_,rfl⟩
  have zB:B.heap.size=A.heap.size:=by rw [← hB];simp
  have hlB:B.heap[w.heap.size+1]?=some (.loop { R .ready none with state:=.busy }):=by rw [← hB];exact World.putObj_heap_same zA
  have hdB:B.heap[w.heap.size]?=some (.deferred (some [])):=by rw [← hB];exact (World.putObj_heap_other (by omega)).trans hdA
  have iB:I pre B:=by rw [← hB];exact hI.putObj _ iA (by omega) hlA rfl
  have xB:Ax x a' B:=by rw [← hB];exact (hAx x a').putObj (s:=()) _ xA (by omega) hlA rfl
  have kB:KeepsFrom V.heap.size W B:=(keeps_far kA (by omega)).trans (by rw [← hB];exact keeps_put _ (by omega))
  have pB:Kp W B:=hKt pA (by rw [← hB];exact hKb _ _ _ hlA)
  rw [hB]
  refine wpIn_mono (hbody _ pre x a' B iB (by rw [zB];exact Nat.le_trans hH kA.size) xB hlen) ?_
  have fin:∀ (jump:Option Code) (C:World),KeepsFrom w.heap.size B C →
   (Instr.endRound (w.heap.size+1) jump).run P C=.ok (.bool jump.isNone) (C.putObj (w.heap.size+1) (.loop (R (if jump.isNone then .ready else .done) jump))) ∧
   C.heap[w.heap.size+1]?=some (.loop { R .ready none with state:=.busy }) ∧
   (C.putObj (w.heap.size+1) (.loop (R (if jump.isNone then .ready else .done) jump))).heap[w.heap.size+1]?=some (.loop (R (if jump.isNone then .ready else .done) jump)) ∧
   (C.putObj (w.heap.size+1) (.loop (R (if jump.isNone then .ready else .done) jump))).heap[w.heap.size]?=some (.deferred (some [])):=fun jump C kC=>by
   have hlC:=kC.same _ _ (by omega) hlB rfl
   have e:=run_endRound (P:=P) jump hlC
   rw [hR] at e ⊢
   exact ⟨e,by rw [hR] at hlC;exact hlC,World.putObj_heap_same (Array.getElem?_eq_some_iff.1 hlC).1,(World.putObj_heap_other (by omega)).trans (kC.same _ _ (Nat.le_refl _) hdB rfl)⟩
  rintro e a3 C hp
  cases e with
  | normal =>
    obtain ⟨kC,pC,iC⟩:=hp
    obtain ⟨e1,e2,e3,e4⟩:=fin none C kC
    exact ⟨_,_,e1,.inl ⟨rfl,⟨hI.putObj _ iC (by omega) e2 rfl,e3,e4⟩,hKt pB (hKt pC (hKb _ _ _ e2)),kB.trans ((keeps_far kC (by omega)).trans (keeps_put _ (by omega)))⟩⟩
  | ret =>
    obtain ⟨kC,iC⟩:=hp
    obtain ⟨e1,e2,e3,e4⟩:=fin (some .ret) C kC
    exact ⟨_,_,e1,.inr ⟨rfl,⟨.ret,(hIx _).putObj _ iC (by omega) e2 rfl,e3,e4⟩,kB.trans ((keeps_far kC (by omega)).trans (keeps_put _ (by omega)))⟩⟩
  | exit id =>
    obtain ⟨kC,iC⟩:=hp
    obtain ⟨e1,e2,e3,e4⟩:=fin (some (.exit id)) C kC
    exact ⟨_,_,e1,.inr ⟨rfl,⟨.exit id,(hIx _).putObj _ iC (by omega) e2 rfl,e3,e4⟩,kB.trans ((keeps_far kC (by omega)).trans (keeps_put _ (by omega)))⟩⟩
  | goto t =>
    obtain ⟨kC,iC⟩:=hp
    obtain ⟨e1,e2,e3,e4⟩:=fin (some (.goto t)) C kC
    exact ⟨_,_,e1,.inr ⟨rfl,⟨.goto t,(hIx _).putObj _ iC (by omega) e2 rfl,e3,e4⟩,kB.trans ((keeps_far kC (by omega)).trans (keeps_put _ (by omega)))⟩⟩
  | panic ch=>exact hp.elim
  | outgrown=>exact hp.elim
 case behind =>
  rintro e W2 ⟨⟨v,rfl⟩,(⟨xs,hS,hi,hl,hd⟩ | ⟨pre,hSp,c,hi,hl,hd⟩)⟩
  ·exact ⟨none,_,by have:=run_endLoop (P:=P) hl (by rw [hR];simp);rw [hR] at this;exact this,hdone _ xs _ (Nat.le_refl _) hS (hI.putObj _ hi (by omega) hl rfl) ((World.putObj_heap_other (by omega)).trans hd)⟩
  ·exact ⟨some c,_,by have:=run_endLoop (P:=P) hl (by rw [hR];simp);rw [hR] at this;exact this,hstop _ c pre _ (Nat.le_refl _) hSp ((hIx c).putObj _ hi (by omega) hl rfl) ((World.putObj_heap_other (by omega)).trans hd)⟩
theorem callsIn_depth {n:Nat} (m:Nat) {P:Program} {f:FuncId} {args:Array Value} {w:World} {R:Ending→World→Prop} (h:CallsIn Fence.wide m P f args w R):CallsIn Fence.wide n P f args w R:=callsIn_wide.2 (callsIn_wide.1 h)
theorem yield_any {m:Nat} (m':Nat) {l:Nat} {args:Array Value} {W:World} {R:Ending→World→Prop} (h:YieldAt Fence.wide m P l args W R):YieldAt Fence.wide m' P l args W R:=by
 obtain ⟨fn,tmps,assign,body,hy,hR⟩:=h
 exact ⟨fn,tmps,assign,body,hy,hR.1,fun c cs _=>hR.2 c cs (fun d h=>by cases h)⟩
end
end Go.Proofs.YtiihegldhnlleaaGreat
