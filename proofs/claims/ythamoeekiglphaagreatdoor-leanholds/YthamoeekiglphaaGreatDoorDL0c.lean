/-
  What blake.flat answers. All of a text, block by block, in lists: of no program. What cartoucheref12.Flat answers. Beginnings of the row of all places: of no pr
-/
import Derived.Test.YthamoeekiglphaaGreatDoorDL0b
import Derived.Lib.Hide
import Derived.Deep.QuietTactic
import Derived.Maps.AppendAt
import Derived.Deep.RegionHeld3
namespace Go.Proofs.YthamoeekiglphaaGreatDoor
set_option maxRecDepth 100000
open Go.RowKit
set_option linter.unusedVariables false
attribute [local go_sem] wv_get wv_getE wv_set wv_size
def fl (H:List Int) (k:Nat):List UInt8:=(List.range 32).map fun i=>if i < k then UInt8.ofNat ((at_ H (i / 4) / 2 ^ (8*(i % 4))) % 256).toNat else 0
theorem fl_len (H:List Int) (k:Nat):(fl H k).length=32:=by simp [fl]
theorem fl_set (H:List Int) (k:Nat) (x:UInt8) (hx:x=UInt8.ofNat ((at_ H (k / 4) / 2 ^ (8*(k % 4))) % 256).toNat):(fl H k).set k x=fl H (k+1):=by
 subst hx
 apply List.ext_getElem
 ·simp [fl]
 ·intro i h1 h2
  simp only [List.getElem_set,fl,List.getElem_map,List.getElem_range]
  by_cases h:k=i
  ·subst h;simp
  ·rw [if_neg h]
   by_cases h3:i < k
   ·rw [if_pos h3,if_pos (by omega)]
   ·rw [if_neg h3,if_neg (by omega)]
theorem byte_of (x:Int):(Value.int .u8 (x % 256))=.int .u8 ((UInt8.ofNat (x % 256).toNat).toNat:Int):=by
 congr 1
 simp;omega
set_option maxHeartbeats 1000000 in
theorem flat_any (H:List Int) (hH:H.length=8) (w:World) :
 Calls Tryz.prog 136 #[.agg (wv H)] w fun e w'=>e=.returned (.string ⟨(fl H 32).toArray⟩)∧Below w.heap.size w w':=by
 have hHs:(wv H).size=8:=by rw [wv_size,hH]
 go_enter Tryz.func136,Tryz.ntmps136
 go_wp2
 go_loopw [5] (fun i wr=>∃ k:Nat,k≤32∧i=.int .i64 k∧Hid (Row wr w.heap.size 99 H)∧Hid (BRow wr (w.heap.size+1) 201 (fl H k))∧Below w.heap.size w wr) (fun i _=>32 - (RowKit.intOf i).toNat)
 case atStart =>
  refine ⟨0,by omega,rfl,?_,?_,((Below.refl _ _).alloc (Nat.le_refl _) _).alloc (by simp) _⟩
  ·exact heap_alloc2_old w _ _
  ·exact heap_alloc2_new w _ _
 case round =>
  obtain ⟨k,hk,rfl,HR,HB,hbw⟩:=hrel
  by_cases hlt:k < 32
  ·have i0:(k:Int) < 32:=by omega
   have p0:(0:Int)≤k:=by omega
   have lf:=fl_len H k
   have q8:k / 4 < 8:=by omega
   have c0:wr.cell? ⟨w.heap.size,k / 4,none⟩=some (.int .u32 (at_ H (k / 4))):=by rw [HR.out.cell _ (by omega),at_eq]
   obtain ⟨y,hy⟩:∃ y,at_ H (k / 4)=y:=⟨_,rfl⟩
   rw [hy] at c0
   have cB:=HB.out.cell k (by omega)
   have fB:=HB.out.frozen k
   go_wp2
   go_roundw
   case rel =>
    refine ⟨k+1,by omega,by go_num,HR.out.other _ _ _ (by omega),?_,hbw.setCell (by simp) _⟩
    rw [byte_of,← fl_set H k _ (by rw [hy])]
    exact HB.out.set k _
   case measure=>simp [RowKit.intOf];omega
  ·obtain rfl:k=32:=by omega
   have hconv:=HB.out.string (P:=Tryz.prog) 94 5 9 (by kernel_rfl) (by kernel_rfl) (by kernel_rfl) 32 32 (fl_len H 32)
   go_wp2
   go_ret
   exact ⟨rfl,hbw⟩
end Go.Proofs.YthamoeekiglphaaGreatDoor
namespace Go.Proofs.YthamoeekiglphaaGreatDoor
set_option maxRecDepth 100000
open Go.RowKit
set_option linter.unusedVariables false
def fk (H:List Int) (S:List UInt8):Nat→List Int
 | 0=>H
 | k+1=>blockL (fk H S k) ((S.drop (64*k)).take 64) (64*(k+1)) false
theorem fk_len (H:List Int) (S:List UInt8) (h:H.length=8) (k:Nat):(fk H S k).length=8:=by
 cases k with
 | zero=>exact h
 | succ k=>exact blockL_len _ _ _ _
def nb (S:List UInt8):Nat:=(S.length - 1) / 64
def foldL (H:List Int) (S:List UInt8):List Int:=blockL (fk H S (nb S)) (padL (S.drop (64*nb S))) S.length true
theorem foldL_len (H:List Int) (S:List UInt8):(foldL H S).length=8:=blockL_len _ _ _ _
theorem nb_of (S:List UInt8) (k:Nat) (h1:k=0∨64*k < S.length) (h2:S.length≤64*k+64):nb S=k:=by
 unfold nb;omega
attribute [local go_sem] ba_size
set_option maxHeartbeats 4000000 in
theorem rflat_any (vl:Value) (l:List Stp) (w:World) (hT:IsSts w vl l) (hF:(flatL l).length≤1000000000000) :
 Calls Tryz.prog 99 #[vl] w fun e w'=>EdRow 32 w (flatL l) e w':=by
 obtain ⟨i0,hi,hz0,hz1,hz2⟩:=info_parts ed_info
 obtain ⟨a,cap,rfl,h1,h2,h3,HC⟩:=hT.reads
 obtain ⟨n,hn⟩:∃ n,l.length=n:=⟨_,rfl⟩
 have HN:Hid (l.length=n):=hn
 have HF:Hid ((flatL l).length≤1000000000000):=hF
 rw [hn] at h1 h3 ⊢
 clear hn hT hF
 go_enter Tryz.func99,Tryz.ntmps99
 go_wp2_with fail
 go_loopw [3,4] (fun r iv wr=>∃ (k c:Nat),k≤n∧iv=.int .i64 k∧Hid ((flatL (l.take k)).length=c)∧Below w.heap.size w wr∧wr.ownsRow w.heap.size 32 5 r c (recV edV (flatL (l.take k)))) (fun _ iv _=>n - (RowKit.intOf iv).toNat)
 case atStart=>exact ⟨0,0,Nat.zero_le _,rfl,rfl,Below.refl _ _,World.ownsRow_nil _ _ _ _⟩
 case round =>
  obtain ⟨wA,rfl⟩:∃ wA,wA=wr:=⟨_,rfl⟩
  obtain ⟨k,c,hk,rfl,HLc,hbw,hrow⟩:=hrel
  by_cases hlt:k < n
  ·have hk1:Hid (k < l.length):=by show k < _;rw [HN.out];exact hlt
   have j0:(k:Int) < (n:Int):=by omega
   have jwk:IntKind.i64.wrap ((k:Int)+1)=(k:Int)+1:=by rw [IntKind.wrap_i64];omega
   obtain ⟨bb,off,rfl,u,hu,HQ⟩:=HC.out k hk1.out
   have HQQ:Hid (∀ V,Below w.heap.size w V→V.cell? ⟨bb,off+k*3+2,none⟩=some u):=fun V hV=>(HQ V hV).2.2
   have HNx:Hid (flatL (l.take (k+1))=flatL (l.take k)++(l[k]'hk1.out).2.2):=flat_next l k hk1.out
   obtain ⟨E,hE⟩:∃ E,(l[k]'hk1.out).2.2=E:=⟨_,rfl⟩
   rw [hE] at hu HNx
   clear hE HQ
   obtain ⟨ae,ce,rfl,e1,e2,e3,HE⟩:=IsEds.reads hu
   obtain ⟨m,hm⟩:∃ m,E.length=m:=⟨_,rfl⟩
   have HM:Hid (E.length=m):=hm
   rw [hm] at e1 e3 HQQ
   have HB:Hid (c+m≤1000000000000):=by
    have q:=flat_take l (k+1)
    rw [HNx.out,List.length_append,HLc.out,hm] at q
    have:=HF.out
    show _≤_
    omega
   clear hm hu
   have c0:=HQQ.out _ hbw
   go_wp2_with fail
   go_loopw [3,5] (fun r iv wr=>∃ (q:Nat),q≤m∧iv=.int .i64 q∧Below w.heap.size w wr∧wr.ownsRow w.heap.size 32 5 r (c+q) (recV edV (flatL (l.take k)++E.take q))) (fun _ iv _=>m - (RowKit.intOf iv).toNat)
   case atStart=>exact ⟨0,Nat.zero_le _,rfl,hbw,by rw [List.take_zero,List.append_nil];exact hrow⟩
   case round =>
    obtain ⟨q,hq,rfl,hbq,hrq⟩:=hrel
    have c1:=HQQ.out _ hbq
    by_cases hlq:q < m
    ·have j1:(q:Int) < (m:Int):=by omega
     have jwq:IntKind.i64.wrap ((q:Int)+1)=(q:Int)+1:=by rw [IntKind.wrap_i64];omega
     have hq1:q < E.length:=by have:=HM.out;omega
     obtain ⟨be,oe,rfl,HEE⟩:=HE.out (by omega)
     obtain ⟨x0,x1,x2,x3,x4⟩:=HEE.out q hq1 _ hbq
     have HY:Hid (E.take (q+1)=E.take q++[E[q]]):=List.take_succ_eq_append_getElem hq1
     obtain ⟨⟨e0,e1',e2',e3',e4⟩,hx⟩:∃ x,E[q]=x:=⟨_,rfl⟩
     rw [hx] at x0 x1 x2 x3 x4 HY
     simp only at x0 x1 x2 x3 x4
     clear hx
     have hbb:=HB.out
     have hal:=hrq.alloc (.cells #[.int .i64 e0,.int .i64 e1',.int .i64 e2',.int .i64 e3',.int .i64 e4] 32)
     go_wp2_with (at_builtin;refine wpList_append_own_at _ rfl _ _ 25 rfl w.heap.size 32 i0 (.agg #[.int .i64 0,.int .i64 0,.int .i64 0,.int .i64 0,.int .i64 0]) 5 40 Tryz.underlying25 hi hz0 hz1 hz2 rfl (by decide) _ _ _ rfl hal ⟨wr.heap.size,0,none⟩ 1 1 [.int .i64 e0,.int .i64 e1',.int .i64 e2',.int .i64 e3',.int .i64 e4] rfl rfl ?a1 ?a2 ?a3 ?a4 ?a5 ?_)
     case a1=>intro j u hj;match j,hj with
      | 0,hj=>simp at hj;subst hj;first | (simp [Addr.add];done) | exact cell_new7 (by simp) rfl
      | 1,hj=>simp at hj;subst hj;first | (simp [Addr.add];done) | exact cell_new7 (by simp) rfl
      | 2,hj=>simp at hj;subst hj;first | (simp [Addr.add];done) | exact cell_new7 (by simp) rfl
      | 3,hj=>simp at hj;subst hj;first | (simp [Addr.add];done) | exact cell_new7 (by simp) rfl
      | 4,hj=>simp at hj;subst hj;first | (simp [Addr.add];done) | exact cell_new7 (by simp) rfl
     case a2=>intro u hu;simp at hu;rcases hu with rfl | rfl | rfl | rfl | rfl<;>rfl
     case a3=>unfold maxLen;omega
     case a4=>omega
     case a5=>have:=hbq.size;simp;omega
     intro r3 w3 hown3 hg3 _ hat3
     have B3:Below w.heap.size w w3:=(hbq.alloc hbq.size _).grown hg3 (by have:=hbq.size;simp;omega) (fun j hj=>(hrq.lt j hj).1)
     go_wp2_with fail
     refine ⟨⟨q+1,by omega,by first | go_num | simp,B3,by rw [HY.out,← List.append_assoc,recE12_snoc];exact hown3⟩,by simp [RowKit.intOf];omega⟩
    ·obtain rfl:q=m:=by omega
     have j1:¬ (q:Int) < (q:Int):=by omega
     have HT:Hid (E.take q=E):=by show _=_;rw [← HM.out,List.take_length]
     go_wp2_with fail
     refine ⟨⟨k+1,c+q,by omega,by first | go_num | simp,by show _=_;rw [HNx.out,List.length_append,HLc.out,HM.out],hbq,by rw [HNx.out,← HT.out];exact hrq⟩,by simp [RowKit.intOf];omega⟩
  ·obtain rfl:k=n:=by omega
   have jq:¬ (k:Int) < (k:Int):=by omega
   have HT:Hid (l.take k=l):=by show _=_;rw [← HN.out,List.take_length]
   go_wp2_with fail
   go_ret
   refine ⟨_,rfl,hbw,?_⟩
   rw [HT.out] at hrow HLc
   rw [HLc.out]
   exact hrow
theorem lessB_lt:∀ a b:List UInt8,lessB a b=true↔a < b
 | [],[]=>by rw [lessB];simp
 | [],_::_=>by rw [lessB];simp
 | _::_,[]=>by rw [lessB];simp
 | a::l,b::m=>by
   rw [lessB,List.cons_lt_cons_iff]
   by_cases h:a < b
   ·rw [if_pos h];simp [h]
   ·rw [if_neg h]
    by_cases e:a=b
    ·rw [if_pos e,lessB_lt l m];simp [e]
    ·rw [if_neg e];simp [h,e]
theorem insK_sorted (k:List UInt8):∀ l:List (List UInt8),l.Pairwise (·< ·)→(insK k l).Pairwise (·< ·)
 | [],_=>by rw [insK];simp
 | x::l,hp=>by
   obtain ⟨h1,h2⟩:=List.pairwise_cons.1 hp
   rw [insK]
   by_cases hx:lessB x k=true
   ·rw [if_pos hx]
    refine List.pairwise_cons.2 ⟨fun y hy=>?_,insK_sorted k l h2⟩
    rcases (insK_mem k l y).1 hy with e | e
    ·rw [e];exact (lessB_lt x k).1 hx
    ·exact h1 y e
   ·rw [if_neg hx]
    by_cases e:x=k
    ·rw [if_pos e];exact hp
    ·rw [if_neg e]
     have hlt:k < x:=by
      have h3:k≤x:=List.not_lt.1 (fun hh=>hx ((lessB_lt x k).2 hh))
      rcases Classical.em (k < x) with h4 | h4
      ·exact h4
      ·exact absurd (List.le_antisymm h3 (List.not_lt.1 h4)).symm e
     refine List.pairwise_cons.2 ⟨fun y hy=>?_,hp⟩
     rcases List.mem_cons.1 hy with e' | e'
     ·rw [e'];exact hlt
     ·exact List.lt_trans hlt (h1 y e')
theorem keysF_sorted:∀ (l:List Ev) (acc:List (List UInt8)),acc.Pairwise (·< ·)→(keysF acc l).Pairwise (·< ·)
 | [],acc,h=>by rw [keysF];exact h
 | x::l,acc,h=>by
   rw [keysF]
   by_cases hk:keyedE x.1
   ·rw [if_pos hk];exact keysF_sorted l _ (insK_sorted _ _ h)
   ·rw [if_neg hk];exact keysF_sorted l _ h
theorem keysL_sorted (h:List Ev):(keysL h).Pairwise (·< ·):=keysF_sorted h [] List.Pairwise.nil
theorem keysF_snoc (x:Ev):∀ (l:List Ev) (acc:List (List UInt8)),keysF acc (l++[x])=if keyedE x.1 then insK x.2.2.1 (keysF acc l) else keysF acc l
 | [],acc=>by show keysF _ []=_;rw [keysF];rfl
 | y::l,acc=>by
   show keysF acc (y::(l++[x]))=_
   rw [keysF,keysF_snoc x l]
   rfl
theorem insK_split (k:List UInt8):∀ (K:List (List UInt8)) (q:Nat) (hq:q≤K.length) (hl:∀ j (h:j < q),lessB (K[j]'(by omega)) k=true) (hn:∀ h:q < K.length,lessB (K[q]'h) k=false),
 insK k K=if ∃ h:q < K.length,K[q]'h=k then K else K.take q++k::K.drop q
 | [],q,hq,hl,hn=>by
   obtain rfl:q=0:=by simpa using hq
   rw [insK,if_neg (by rintro ⟨h,_⟩;simp at h)]
   rfl
 | x::K,0,hq,hl,hn=>by
   have:=hn (by simp)
   simp only [List.getElem_cons_zero] at this
   rw [insK,if_neg (by rw [this];simp)]
   by_cases hx:x=k
   ·rw [if_pos hx,if_pos ⟨by simp,hx⟩]
   ·rw [if_neg hx,if_neg (by rintro ⟨_,h⟩;exact hx h)]
    rfl
 | x::K,q+1,hq,hl,hn=>by
   have h0:=hl 0 (by omega)
   simp only [List.getElem_cons_zero] at h0
   rw [insK,if_pos h0,insK_split k K q (by simpa using hq) (fun j h=>by have:=hl (j+1) (by omega);simpa using this) (fun h=>by have:=hn (by simpa using h);simpa using this)]
   by_cases hx:∃ h:q < K.length,K[q]'h=k
   ·rw [if_pos hx,if_pos (by obtain ⟨h,e⟩:=hx;exact ⟨by simpa using h,by simpa using e⟩)]
   ·rw [if_neg hx,if_neg (by rintro ⟨h,e⟩;exact hx ⟨by simpa using h,by simpa using e⟩)]
    rfl
theorem insK_len (k:List UInt8):∀ K:List (List UInt8),(insK k K).length≤K.length+1
 | []=>by rw [insK];simp
 | x::K=>by
   rw [insK]
   by_cases h1:lessB x k=true
   ·rw [if_pos h1];have:=insK_len k K;simp only [List.length_cons];omega
   ·rw [if_neg h1]
    by_cases h2:x=k
    ·rw [if_pos h2];simp
    ·rw [if_neg h2];simp
theorem lessB_same (x y:UInt8) (l m:List UInt8) (h:x=y):lessB (x::l) (y::m)=lessB l m:=by
 subst h
 rw [lessB,if_neg (by simp),if_pos rfl]
theorem lessB_diff (x y:UInt8) (l m:List UInt8) (h:x≠y):lessB (x::l) (y::m)=decide (x.toNat < y.toNat):=by
 rw [lessB,if_neg h]
 by_cases hx:x < y
 ·rw [if_pos hx,decide_eq_true (UInt8.lt_iff_toNat_lt.1 hx)]
 ·rw [if_neg hx,decide_eq_false (fun hh=>hx (UInt8.lt_iff_toNat_lt.2 hh))]
theorem lessB_nil (m:List UInt8):lessB [] m=decide (0 < m.length):=by
 cases m with
 | nil=>rfl
 | cons _ _=>rw [lessB];simp
theorem lessB_cons_nil (x:UInt8) (l:List UInt8):lessB (x::l) []=false:=by rw [lessB]
theorem vers_len (h:List Ev) (key:List UInt8):(versL h key).length≤h.length:=by
 unfold versL
 have:=List.length_filterMap_le (verOf h key) (List.range h.length)
 rw [List.length_range] at this
 exact this
theorem keysF_len:∀ (l:List Ev) (acc:List (List UInt8)),(keysF acc l).length≤acc.length+l.length
 | [],acc=>by rw [keysF];simp
 | x::l,acc=>by
   rw [keysF]
   have h1:=keysF_len l (if keyedE x.1 then insK x.2.2.1 acc else acc)
   have h2:(if keyedE x.1 then insK x.2.2.1 acc else acc).length≤acc.length+1:=by
    by_cases hk:keyedE x.1
    ·rw [if_pos hk];exact insK_len _ _
    ·rw [if_neg hk];omega
   simp only [List.length_cons]
   omega
theorem keys_len (h:List Ev):(keysL h).length≤h.length:=by
 have:=keysF_len h []
 simpa [keysL] using this
def fiF (p:Nat→Bool) (m n:Nat):Option Nat:=((List.range n).drop m).find? p
theorem fiF_end (p:Nat→Bool) (n:Nat):fiF p n n=none:=by
 unfold fiF
 rw [List.drop_of_length_le (by rw [List.length_range];exact Nat.le_refl _)]
 rfl
theorem fiF_step (p:Nat→Bool) (m n:Nat) (hm:m < n):fiF p m n=if p m=true then some m else fiF p (m+1) n:=by
 unfold fiF
 rw [List.drop_eq_getElem_cons (by rw [List.length_range];exact hm),List.getElem_range]
 by_cases h:p m=true
 ·rw [if_pos h,List.find?_cons_of_pos h]
 ·rw [if_neg h,List.find?_cons_of_neg h]
theorem fiF_zero (p:Nat→Bool) (n:Nat):fiF p 0 n=fi p n:=rfl
def isVer (h:List Ev) (v:List Nat) (i n:Nat):Bool:=decide ((ev h (vAt v n)).2.2.2=(ev h i).2.2.2)
theorem verAt_is (h:List Ev) (v:List Nat) (i:Nat):verAt h v i=fi (isVer h v i) v.length:=rfl
def wTo (h:List Ev) (v:List Nat) (n:Nat):List Ed:=(List.range n).filterMap (wEdge h v)
theorem wTo_next (h:List Ev) (v:List Nat) (n:Nat):wTo h v (n+1)=wTo h v n++(wEdge h v n).toList:=by
 unfold wTo
 rw [List.range_succ,List.filterMap_append]
 cases hl:wEdge h v n with
 | none=>simp [hl]
 | some x=>simp [hl]
theorem wTo_len (h:List Ev) (v:List Nat) (n:Nat):(wTo h v n).length≤n:=by
 unfold wTo
 have:=List.length_filterMap_le (wEdge h v) (List.range n)
 rwa [List.length_range] at this
def rOf (h:List Ev) (key:List UInt8) (v:List Nat) (i:Nat):List Ed:=if readOf h key i=true then rdEdges h v i else []
def rTo (h:List Ev) (key:List UInt8) (v:List Nat) (i:Nat):List Ed:=(List.range i).flatMap (rOf h key v)
theorem rTo_next (h:List Ev) (key:List UInt8) (v:List Nat) (i:Nat):rTo h key v (i+1)=rTo h key v i++rOf h key v i:=by
 unfold rTo
 rw [List.range_succ,List.flatMap_append]
 simp
theorem rEdge_len (h:List Ev) (v:List Nat) (i n:Nat):(rEdge h v i n).length≤1:=by
 unfold rEdge
 by_cases hh:tx h (vAt v n)=tx h i
 ·rw [if_pos hh];simp
 ·rw [if_neg hh];simp
theorem oEdge_len (h:List Ev) (v:List Nat) (i n:Nat):(oEdge h v i n).length≤1:=by
 unfold oEdge
 by_cases hh:n < v.length∧tx h (vAt v n)≠tx h i
 ·rw [if_pos hh];simp
 ·rw [if_neg hh];simp
theorem rOf_len (h:List Ev) (key:List UInt8) (v:List Nat) (i:Nat):(rOf h key v i).length≤2:=by
 unfold rOf
 by_cases hh:readOf h key i=true
 ·rw [if_pos hh]
  unfold rdEdges
  cases verAt h v i with
  | none =>
    simp only
    by_cases hv:(ev h i).2.2.2=[]
    ·rw [if_pos hv];have:=oEdge_len h v i 0;omega
    ·rw [if_neg hv];simp
  | some n =>
    simp only
    rw [List.length_append]
    have:=rEdge_len h v i n
    have:=oEdge_len h v i (n+1)
    omega
 ·rw [if_neg hh];simp
def eTo (h:List Ev) (k:Nat):List Ed:=((keysL h).take k).flatMap (keyEdges h)
theorem eTo_next (h:List Ev) (k:Nat) (hk:k < (keysL h).length):eTo h (k+1)=eTo h k++keyEdges h (keysL h)[k]:=by
 unfold eTo
 rw [List.take_succ_eq_append_getElem hk,List.flatMap_append]
 simp
theorem eTo_all (h:List Ev):eTo h (keysL h).length=edgesL h:=by
 unfold eTo edgesL
 rw [List.take_of_length_le (Nat.le_refl _)]
theorem keyEdges_is (h:List Ev) (key:List UInt8):keyEdges h key=wTo h (versL h key) ((versL h key).length - 1)++rTo h key (versL h key) h.length:=rfl
theorem vers_lt (h:List Ev) (key:List UInt8) (y:Nat) (hy:y∈versL h key):y < h.length:=by
 unfold versL at hy
 obtain ⟨i,hi,hv⟩:=List.mem_filterMap.1 hy
 have:=List.mem_range.1 hi
 have:=(verOf_some hv).2.2.1
 omega
theorem sum_add {α:Type} (f g:α→Nat):∀ K:List α,(K.map fun x=>f x+g x).sum=(K.map f).sum+(K.map g).sum
 | []=>rfl
 | x::K=>by simp only [List.map_cons,List.sum_cons];rw [sum_add f g K];omega
theorem sum_le {α:Type} (f g:α→Nat):∀ K:List α,(∀ x∈K,f x≤g x)→(K.map f).sum≤(K.map g).sum
 | [],_=>Nat.le_refl _
 | x::K,h=>by
   simp only [List.map_cons,List.sum_cons]
   have h1:=h x (List.mem_cons_self ..)
   have h2:=sum_le f g K (fun y hy=>h y (List.mem_cons_of_mem _ hy))
   omega
theorem sum_zero {α:Type}:∀ K:List α,(K.map fun _=>0).sum=0
 | []=>rfl
 | _::K=>by simp [sum_zero K]
theorem sum_one {α:Type} [DecidableEq α] (y:α):∀ K:List α,K.Nodup→(K.map fun k=>if y=k then 1 else 0).sum≤1
 | [],_=>by simp
 | x::K,h=>by
   obtain ⟨h1,h2⟩:=List.nodup_cons.1 h
   simp only [List.map_cons,List.sum_cons]
   have ih:=sum_one y K h2
   by_cases e:y=x
   ·rw [if_pos e]
    have:(K.map fun k=>if y=k then 1 else 0).sum=0:=by
     have e3:(K.map fun k=>if y=k then 1 else 0)=K.map fun _=>0:=List.map_congr_left (fun k hk=>if_neg (fun e2=>h1 (by rw [← e,e2];exact hk)))
     rw [e3,sum_zero]
    omega
   ·rw [if_neg e];omega
def kCnt (h:List Ev) (n:Nat) (key:List UInt8):Nat:=(List.range n).countP fun i=>decide ((ev h i).2.2.1=key)
theorem kCnt_sum (h:List Ev) (K:List (List UInt8)) (hK:K.Nodup):∀ n,(K.map (kCnt h n)).sum≤n
 | 0=>by
   have:K.map (kCnt h 0)=K.map fun _=>0:=List.map_congr_left (fun k _=>rfl)
   rw [this,sum_zero]
   exact Nat.le_refl _
 | n+1=>by
   have e:K.map (kCnt h (n+1))=K.map fun k=>kCnt h n k+if (ev h n).2.2.1=k then 1 else 0:=List.map_congr_left (fun k _=>by
    unfold kCnt
    rw [List.range_succ,List.countP_append,List.countP_singleton]
    simp)
   rw [e,sum_add]
   have h1:=kCnt_sum h K hK n
   have h2:=sum_one (ev h n).2.2.1 K hK
   omega
theorem nodup_count (l:List Nat) (n:Nat) (p:Nat→Bool) (hl:l.Nodup) (h:∀ x∈l,x < n∧p x=true):l.length≤(List.range n).countP p:=by
 have pm:l.Perm ((List.range n).filter fun x=>decide (x∈l)):=by
  refine (List.perm_ext_iff_of_nodup hl (List.Pairwise.filter _ List.nodup_range)).2 fun x=>?_
  rw [List.mem_filter,List.mem_range,decide_eq_true_eq]
  exact ⟨fun hx=>⟨(h x hx).1,hx⟩,fun hx=>hx.2⟩
 rw [pm.length_eq,← List.countP_eq_length_filter]
 exact List.countP_mono_left (fun x _ hx=>(h x (by simpa using hx)).2)
theorem vers_nodup (h:List Ev) (key:List UInt8):(versL h key).Nodup:=by
 unfold versL
 refine List.Pairwise.filterMap (R:=fun a b:Nat=>a < b) _ ?_ List.pairwise_lt_range
 intro a b hab x hx y hy exy
 have h1:=verOf_some hx
 have h2:=verOf_some hy
 subst exy
 have e:(ev h a).2.1=(ev h b).2.1:=h1.2.2.2.2.1.symm.trans h2.2.2.2.2.1
 have e1:=h1.2.1
 rw [e,h2.2.1] at e1
 have:=Option.some.inj e1
 omega
def c3 (h:List Ev) (key:List UInt8) (i:Nat):Bool:=decide ((ev h i).1=3)&&decide ((ev h i).2.2.1=key)
def c2 (h:List Ev) (key:List UInt8) (i:Nat):Bool:=decide ((ev h i).1=2)&&decide ((ev h i).2.2.1=key)
theorem rTo_cnt (h:List Ev) (key:List UInt8) (v:List Nat):∀ i,(rTo h key v i).length≤2*(List.range i).countP (c2 h key)
 | 0=>by unfold rTo;simp
 | i+1=>by
   rw [rTo_next,List.length_append,List.range_succ,List.countP_append,List.countP_singleton]
   have h1:=rTo_cnt h key v i
   have h2:=rOf_len h key v i
   by_cases hr:readOf h key i=true
   ·have hc:c2 h key i=true:=by
     unfold readOf at hr
     rw [Bool.and_eq_true,decide_eq_true_eq] at hr
     unfold outerB at hr
     rw [Bool.and_eq_true] at hr
     have:=(counts_iff h i).1 hr.2.1
     unfold c2
     rw [Bool.and_eq_true,decide_eq_true_eq,decide_eq_true_eq]
     exact ⟨this.2.1,hr.1⟩
    rw [hc]
    simp
    omega
   ·have:rOf h key v i=[]:=by unfold rOf;rw [if_neg hr]
    rw [this]
    simp
    omega
theorem c_sum (h:List Ev) (key:List UInt8):∀ n,(List.range n).countP (c3 h key)+2*(List.range n).countP (c2 h key)≤2*kCnt h n key
 | 0=>by simp [kCnt]
 | n+1=>by
   have ih:=c_sum h key n
   unfold kCnt at ih ⊢
   rw [List.range_succ,List.countP_append,List.countP_append,List.countP_append,List.countP_singleton,List.countP_singleton,List.countP_singleton]
   by_cases hk:(ev h n).2.2.1=key
   ·by_cases h3:(ev h n).1=3
    ·simp [c3,c2,hk,h3]
     omega
    ·by_cases h2:(ev h n).1=2
     ·simp [c3,c2,hk,h2]
      omega
     ·simp [c3,c2,hk,h3,h2]
      omega
   ·simp [c3,c2,hk]
    omega
theorem key_cnt (h:List Ev) (key:List UInt8):(keyEdges h key).length≤2*kCnt h h.length key:=by
 rw [keyEdges_is,List.length_append]
 have h1:=wTo_len h (versL h key) ((versL h key).length - 1)
 have h2:=rTo_cnt h key (versL h key) h.length
 have h3:=nodup_count (versL h key) h.length (c3 h key) (vers_nodup h key) (fun x hx=>⟨vers_lt h key x hx,by
  unfold versL at hx
  obtain ⟨i,_,hv⟩:=List.mem_filterMap.1 hx
  have:=verOf_some hv
  unfold c3
  rw [Bool.and_eq_true,decide_eq_true_eq,decide_eq_true_eq]
  exact ⟨this.2.2.2.1,this.2.2.2.2.2.1⟩⟩)
 have h4:=c_sum h key h.length
 omega
theorem edges_few (h:List Ev):(edgesL h).length≤2*h.length:=by
 unfold edgesL
 rw [List.length_flatMap]
 have nd:(keysL h).Nodup:=List.Pairwise.imp (fun {a b} hlt e=>by rw [e] at hlt;exact List.lt_irrefl b hlt) (keysL_sorted h)
 have h1:=sum_le (fun key=>(keyEdges h key).length) (fun key=>kCnt h h.length key+kCnt h h.length key) (keysL h) (fun k _=>by have:=key_cnt h k;omega)
 rw [sum_add] at h1
 have h2:=kCnt_sum h (keysL h) nd h.length
 omega
theorem getD_at {α:Type} (l:List α) (d:α) (j:Nat) (h:j < l.length):l.getD j d=l[j]:=by rw [List.getD_eq_getElem?_getD,List.getElem?_eq_getElem h,Option.getD_some]
theorem IsInts.reads {w:World} {v:Value} {L:List Int} (hT:IsInts w v L):∃ a cap,v=.slice a L.length cap∧L.length≤cap∧cap≤9223372036854775807∧L.length≤140737488351232 ∧
 Hid (0 < L.length→∃ b off,a=some ⟨b,off,none⟩∧Hid (∀ j,j < L.length→∀ V,Below w.heap.size w V→V.cell? ⟨b,off+j,none⟩=some (.int .i64 (L.getD j 0)))):=by
 obtain ⟨a,cap,rfl,h1,h2,h3,HC⟩:=hT.some_at
 refine ⟨a,cap,rfl,h1,h2,h3,?_⟩
 intro h0
 obtain ⟨b,off,rfl,hlt,_⟩:=HC.out 0 h0
 refine ⟨b,off,rfl,?_⟩
 intro j hj V hV
 obtain ⟨b',off',hbo,_,hc⟩:=HC.out j hj
 obtain ⟨rfl,rfl⟩:b=b'∧off=off':=by simpa using hbo
 have:=hc 0 (.int .i64 L[j]) rfl
 rw [getD_at L 0 j hj]
 refine (hV.cell (p:=⟨b,off+j,none⟩) hlt).trans ?_
 simpa using this
theorem mem_getD {l:List Int} {k:Nat} {x:Int} (hk:k < l.length) (h:l.getD k 0=x):x∈l:=by
 rw [getD_at l 0 k hk] at h
 rw [← h]
 exact List.getElem_mem hk
theorem not_mem_getD {l:List Int} {x:Int} (h:∀ j,j < l.length→l.getD j 0≠x):¬ x∈l:=fun hm=>by
 obtain ⟨j,hj,e⟩:=List.getElem_of_mem hm
 exact h j hj (by rw [getD_at l 0 j hj];exact e)
def dropI (x:Int) (l:List Int):List Int:=l.filter fun y=>decide (y≠x)
set_option maxHeartbeats 1000000 in
theorem rhas_any (v:Value) (l:List Int) (x:Int) (w:World) (hT:IsInts w v l) :
 Calls Tryz.prog 121 #[v,.int .i64 x] w fun e w'=>e=.returned (Value.bool (decide (x∈l)))∧Below w.heap.size w w':=by
 obtain ⟨a,cap,rfl,h1,h2,h3,HC⟩:=IsInts.reads hT
 obtain ⟨n,hn⟩:∃ n,l.length=n:=⟨_,rfl⟩
 have HN:Hid (l.length=n):=hn
 obtain ⟨r,hr⟩:∃ r,(Value.bool (decide (x∈l)))=r:=⟨_,rfl⟩
 have HR:Hid ((Value.bool (decide (x∈l)))=r):=hr
 rw [hr]
 rw [hn] at h1 h3 ⊢
 clear hT hn hr
 go_enter Tryz.func121,Tryz.ntmps121
 go_wp2_with fail
 go_loopw [5] (fun i wr=>∃ k:Nat,k≤n∧i=.int .i64 k∧Hid (∀ j,j < k→l.getD j 0≠x)∧Below w.heap.size w wr) (fun i _=>n - (RowKit.intOf i).toNat)
 case atStart=>exact ⟨0,Nat.zero_le _,rfl,(fun j hj=>by omega),Below.refl _ _⟩
 case round =>
  obtain ⟨k,hk,rfl,HA,hbw⟩:=hrel
  by_cases hlt:k < n
  ·have hk1:k < l.length:=by have:=HN.out;omega
   have jk:(k:Int) < (n:Int):=by omega
   obtain ⟨bb,off,rfl,HQ⟩:=HC.out (by omega)
   have c0:=HQ.out k hk1 _ hbw
   obtain ⟨y,hy⟩:∃ y,l.getD k 0=y:=⟨_,rfl⟩
   rw [hy] at c0
   by_cases d:y=x
   ·have e1:(y==x)=true:=by rw [d];exact beq_self_eq_true _
    have HF:Hid (r=Value.bool true):=by
     show _=_
     rw [← HR.out]
     rw [decide_eq_true (mem_getD hk1 (hy.trans d))]
    clear d hy
    go_wp2_with fail
    go_ret
    exact ⟨by rw [HF.out];rfl,hbw⟩
   ·have e1:(y==x)=false:=beq_eq_false_iff_ne.2 d
    have HA2:Hid (∀ j,j < k+1→l.getD j 0≠x):=fun j hj=>by
     rcases Nat.lt_or_ge j k with hj2 | hj2
     ·exact HA.out j hj2
     ·obtain rfl:j=k:=by omega
      rw [hy]
      exact d
    clear d hy
    go_wp2_with fail
    refine ⟨⟨k+1,by omega,by first | go_num | simp,HA2,hbw⟩,by simp [RowKit.intOf];omega⟩
  ·obtain rfl:k=n:=by omega
   have jk:¬ (k:Int) < (k:Int):=by omega
   have HF:Hid (r=Value.bool false):=by
    show _=_
    rw [← HR.out]
    rw [decide_eq_false (not_mem_getD (fun j hj=>HA.out j (by rw [← HN.out];exact hj)))]
   go_wp2_with fail
   go_ret
   exact ⟨by rw [HF.out];rfl,hbw⟩
set_option maxHeartbeats 1000000 in
theorem rwithout_any (v:Value) (l:List Int) (x:Int) (w:World) (hT:IsInts w v l) (hn:l.length≤1000000000) :
 Calls Tryz.prog 122 #[v,.int .i64 x] w fun e w'=>InRow w (dropI x l) e w':=by
 obtain ⟨i0,hi,hz0,hz1,hz2⟩:=info_parts int_info
 obtain ⟨a,cap,rfl,h1,h2,h3,HC⟩:=IsInts.reads hT
 obtain ⟨n,hn'⟩:∃ n,l.length=n:=⟨_,rfl⟩
 have HN:Hid (l.length=n):=hn'
 rw [hn'] at h1 h3 hn ⊢
 clear hT hn'
 go_enter Tryz.func122,Tryz.ntmps122
 go_wp2_with fail
 go_loopw [5,6] (fun r i wr=>∃ (k c:Nat),k≤n∧c≤k∧i=.int .i64 k∧Hid ((dropI x (l.take k)).length=c)∧Below w.heap.size w wr∧wr.ownsRow w.heap.size 3 1 r c (recV intV (dropI x (l.take k)))) (fun _ i _=>n - (RowKit.intOf i).toNat)
 case atStart=>exact ⟨0,0,Nat.zero_le _,Nat.zero_le _,rfl,rfl,Below.refl _ _,World.ownsRow_nil _ _ _ _⟩
 case round =>
  obtain ⟨k,c,hk,hc,rfl,HL,hbw,hrow⟩:=hrel
  by_cases hlt:k < n
  ·have hk1:k < l.length:=by have:=HN.out;omega
   have jk:(k:Int) < (n:Int):=by omega
   obtain ⟨bb,off,rfl,HQ⟩:=HC.out (by omega)
   have c0:=HQ.out k hk1 _ hbw
   obtain ⟨y,hy⟩:∃ y,l.getD k 0=y:=⟨_,rfl⟩
   rw [hy] at c0
   have HT:Hid (dropI x (l.take (k+1))=dropI x (l.take k)++(if y=x then [] else [y])):=by
    show _=_
    unfold dropI
    rw [List.take_succ_eq_append_getElem hk1,List.filter_append,← getD_at l 0 k hk1,hy]
    congr 1
    by_cases d:y=x
    ·rw [if_pos d];simp [d]
    ·rw [if_neg d];simp [d]
   clear hy
   by_cases d:y=x
   ·have e1:(y != x)=false:=by rw [d];simp
    rw [if_pos d,List.append_nil] at HT
    clear d
    go_wp2_with fail
    refine ⟨⟨k+1,c,by omega,by omega,by first | go_num | simp,by show _=_;rw [HT.out];exact HL.out,hbw,by rw [HT.out];exact hrow⟩,by simp [RowKit.intOf];omega⟩
   ·have e1:(y != x)=true:=bne_iff_ne.2 d
    rw [if_neg d] at HT
    clear d
    obtain ⟨DR,hDR⟩:∃ d:List Int,dropI x (l.take k)=d:=⟨_,rfl⟩
    rw [hDR] at hrow HT HL
    have sz:=hbw.size
    go_wp2_with (at_builtin;refine wpList_append_own _ rfl _ _ 22 rfl w.heap.size 3 i0 (.int .i64 0) 1 8 Tryz.underlying22 hi hz0 hz1 hz2 rfl (by decide) _ _ _ rfl (hrow.alloc _) ⟨wr.heap.size,0,none⟩ 1 1 [.int .i64 y] rfl rfl ?d1 ?d2 ?d3 ?d4 ?d5 ?_)
    case d1=>intro j u hj;match j,hj with
     | 0,hj=>simp at hj;subst hj;first | (simp [Addr.add];done) | exact cell_new7 (by simp) rfl
    case d2=>intro u hu;simp at hu;subst hu;rfl
    case d3=>unfold maxLen;omega
    case d4=>omega
    case d5=>simp;omega
    intro v' w3 own3 g3 _
    have B3:Below w.heap.size w w3:=(hbw.alloc hbw.size _).grown g3 (by simp;omega) (fun j hj=>(hrow.lt j hj).1)
    go_wp2_with fail
    refine ⟨⟨k+1,c+1,by omega,by omega,by first | go_num | simp,by show _=_;rw [HT.out,List.length_append,HL.out];rfl,B3,by rw [HT.out,recV_append];exact own3⟩,by simp [RowKit.intOf];omega⟩
  ·obtain rfl:k=n:=by omega
   have jk:¬ (k:Int) < (k:Int):=by omega
   have HE:Hid (dropI x (l.take k)=dropI x l):=by show _=_;rw [← HN.out,List.take_length]
   go_wp2_with fail
   go_ret
   refine ⟨_,rfl,hbw,?_⟩
   rw [← HE.out,HL.out]
   exact hrow
end Go.Proofs.YthamoeekiglphaaGreatDoor
namespace Go.Proofs.YthamoeekiglphaaGreatDoor
set_option maxRecDepth 100000
open Go.RowKit
set_option linter.unusedVariables false
def Apart11 (r v:Value):Prop:=∀ g,v.ownBlock=some g→r.ownBlock≠some g
theorem apart11_kept {W W':World} {B e k n:Nat} {r v:Value} {xs:List Value} (h:W.ownsRow B e k v n xs) (hg:W.grownBy W' r.ownBlock) (ha:Apart11 r v):W'.ownsRow B e k v n xs:=by
 refine h.kept hg ?_
 cases hv:v.ownBlock with
 | none=>exact .inl rfl
 | some g=>exact .inr (fun e=>ha g hv (by rw [← e]))
theorem apart11_low {W W':World} {B C e k e' k' n n':Nat} {r v:Value} {xs ys:List Value} (hr:W.ownsRow B e k r n xs) (hv:W'.ownsRow C e' k' v n' ys) (hC:W.heap.size≤C):Apart11 r v:=by
 intro g h1 h2
 have:=(hr.lt g h2).2
 have:=(hv.lt g h1).1
 omega
theorem apart11_nil (v:Value) (n c:Nat):Apart11 (.slice none n c) v:=fun g _ h=>by simp [Value.ownBlock] at h
def Shp (v:Value):Prop:=v=.slice none 0 0∨∃ ad n c,v=.slice (some ad) n c
theorem Shp.own {W:World} {B e k n:Nat} {v:Value} {xs:List Value} (h:W.ownsRow B e k v n xs):Shp v:=by
 rcases h.2 with ⟨rfl,_⟩ | ⟨g,cap,cur,rfl,_⟩
 ·exact .inl rfl
 ·exact .inr ⟨_,_,_,rfl⟩
def slLen:Value→Nat
 | .slice _ n _=>n
 | _=>0
section
variable {α:Type}
def freeTo (l:List (Sp α)) (left:List Int) (x:Int) (z:Nat):Bool:=freeB (l.take z) left x
theorem freeTo_next (l:List (Sp α)) (left:List Int) (x:Int) (z:Nat) (hz:z < l.length):freeTo l left x (z+1)=(freeTo l left x z&&!(decide (l[z].2.1=x)&&decide (l[z].1∈left))):=by
 unfold freeTo freeB
 rw [List.take_succ_eq_append_getElem hz,List.all_append]
 simp
theorem freeTo_all (l:List (Sp α)) (left:List Int) (x:Int):freeTo l left x l.length=freeB l left x:=by unfold freeTo;rw [List.take_length]
def bestTo (l:List (Sp α)) (left:List Int) (q:Nat):Option Int:=minI ((left.take q).filter fun x=>freeB l left x)
theorem minI_snoc (L:List Int) (x:Int):minI (L++[x])=match minI L with
 | none=>some x
 | some y=>some (if x < y then x else y):=by
 cases hm:minI L with
 | none =>
   rw [(minI_none L).1 hm]
   rfl
 | some y =>
   simp only
   obtain ⟨h1,h2⟩:=(minI_some L y).1 hm
   rw [minI_some]
   by_cases hx:x < y
   ·rw [if_pos hx]
    refine ⟨by simp,fun z hz=>?_⟩
    rcases List.mem_append.1 hz with hz | hz
    ·have:=h2 z hz;omega
    ·rw [List.mem_singleton.1 hz];exact Int.le_refl _
   ·rw [if_neg hx]
    refine ⟨List.mem_append.2 (.inl h1),fun z hz=>?_⟩
    rcases List.mem_append.1 hz with hz | hz
    ·exact h2 z hz
    ·rw [List.mem_singleton.1 hz];omega
theorem bestTo_no (l:List (Sp α)) (left:List Int) (q:Nat) (hq:q < left.length) (h:freeB l left left[q]=false):bestTo l left (q+1)=bestTo l left q:=by
 unfold bestTo
 rw [List.take_succ_eq_append_getElem hq,List.filter_append]
 rw [show List.filter (fun x=>freeB l left x) [left[q]]=[] by simp [h]]
 simp
theorem bestTo_yes (l:List (Sp α)) (left:List Int) (q:Nat) (hq:q < left.length) (h:freeB l left left[q]=true):bestTo l left (q+1)=match bestTo l left q with
 | none=>some left[q]
 | some y=>some (if left[q] < y then left[q] else y):=by
 unfold bestTo
 rw [List.take_succ_eq_append_getElem hq,List.filter_append]
 rw [show List.filter (fun x=>freeB l left x) [left[q]]=[left[q]] by simp [h]]
 exact minI_snoc _ _
theorem bestTo_all (l:List (Sp α)) (left:List Int):bestTo l left left.length=bestL l left:=by unfold bestTo bestL;rw [List.take_length]
def ordI (nodes:List Int) (l:List (Sp α)) (left out:List Int):Prop:=∃ fuel,left.length≤fuel∧orderL nodes l=(orderF l fuel left).map (out++·)
theorem ordI_start (nodes:List Int) (l:List (Sp α)):ordI nodes l nodes []:=⟨nodes.length,Nat.le_refl _,by unfold orderL;cases orderF l nodes.length nodes<;>rfl⟩
theorem ordI_end (nodes:List Int) (l:List (Sp α)) (out:List Int) (h:ordI nodes l [] out):orderL nodes l=some out:=by
 obtain ⟨fuel,_,h⟩:=h
 rw [h]
 cases fuel<;>simp [orderF]
theorem ordI_none (nodes:List Int) (l:List (Sp α)) (left out:List Int) (h:ordI nodes l left out) (hne:left≠[]) (hb:bestL l left=none):orderL nodes l=none:=by
 obtain ⟨fuel,hf,h⟩:=h
 cases fuel with
 | zero=>exact absurd (List.length_eq_zero_iff.1 (by omega)) hne
 | succ fuel =>
   rw [h,orderF,if_neg hne,hb]
   rfl
theorem ordI_next (nodes:List Int) (l:List (Sp α)) (left out:List Int) (b:Int) (h:ordI nodes l left out) (hne:left≠[]) (hb:bestL l left=some b):ordI nodes l (left.filter fun x=>decide (x≠b)) (out++[b]):=by
 obtain ⟨fuel,hf,h⟩:=h
 cases fuel with
 | zero=>exact absurd (List.length_eq_zero_iff.1 (by omega)) hne
 | succ fuel =>
   have hlt:=filter_less left b ((best_some l left b).1 hb).1.1
   refine ⟨fuel,by omega,?_⟩
   rw [h,orderF,if_neg hne,hb]
   simp only
   cases orderF l fuel (left.filter fun x=>decide (x≠b)) with
   | none=>rfl
   | some o=>simp
end
end Go.Proofs.YthamoeekiglphaaGreatDoor
namespace Go.Proofs.YthamoeekiglphaaGreatDoor
set_option maxRecDepth 100000
open Go.RowKit
set_option linter.unusedVariables false
theorem sl_info:(Tryz.prog.info? 22).map (fun i=>(i.zero,i.size,i.bytes))=some (some (.slice none 0 0),1,24):=by kernel_rfl
theorem own_lit (w:World) (e k n:Nat) (xs:List Value) (hx:xs.length=n*k) (hs:n≤1000):(w.alloc (.cells xs.toArray e)).ownsRow w.heap.size e k (.slice (some ⟨w.heap.size,0,none⟩) n n) n xs :=
 ⟨hx,.inr ⟨w.heap.size,n,_,rfl,Nat.le_refl _,SBox.new w e _,Nat.le_refl _,by unfold maxLen;omega,by rw [List.size_toArray,hx],by rw [List.toList_toArray,List.take_of_length_le (by rw [hx];exact Nat.le_refl _)]⟩⟩
theorem apart_types {W:World} {B B' e e' k k' n n':Nat} {r v:Value} {xs ys:List Value} (hr:W.ownsRow B e k r n xs) (hv:W.ownsRow B' e' k' v n' ys) (hne:e≠e'):Apart11 r v:=by
 intro g h1 h2
 rcases hr.2 with ⟨rfl,_⟩ | ⟨g1,c1,u1,rfl,_,b1,_⟩
 ·simp [Value.ownBlock] at h2
 ·rcases hv.2 with ⟨rfl,_⟩ | ⟨g2,c2,u2,rfl,_,b2,_⟩
  ·simp [Value.ownBlock] at h1
  ·obtain rfl:g1=g:=by simpa [Value.ownBlock] using h2
   obtain rfl:g2=g1:=by simpa [Value.ownBlock] using h1
   rw [b1] at b2
   simp at b2
   exact hne b2.2
def WaysOk (w W:World) (l:List Stp) (to:Int) (Vs:List Value):Prop:=∀ (n:Nat) u,Vs[n]?=some u→∃ N:List Int,W.ownsRow w.heap.size 3 1 u N.length (recV intV N)∧N.length≤l.length+1∧∀ x,x∈N↔wayB l to n x=true
theorem WaysOk.below {w W W':World} {l:List Stp} {to:Int} {Vs:List Value} (h:WaysOk w W l to Vs) (hb:Below W.heap.size W W'):WaysOk w W' l to Vs:=fun n u hu=>by
 obtain ⟨N,h1,h2⟩:=h n u hu
 exact ⟨N,owns_below h1 hb,h2⟩
theorem WaysOk.grown {w W W':World} {l:List Stp} {to:Int} {Vs:List Value} {B k n:Nat} {r:Value} {xs:List Value} (h:WaysOk w W l to Vs) (hr:W.ownsRow B 22 k r n xs) (hne:22≠3) (hg:W.grownBy W' r.ownBlock):WaysOk w W' l to Vs:=fun j u hu=>by
 obtain ⟨N,h1,h2⟩:=h j u hu
 exact ⟨N,apart11_kept h1 hg (apart_types hr h1 hne),h2⟩
theorem WaysOk.push {w W:World} {l:List Stp} {to:Int} {Vs:List Value} (h:WaysOk w W l to Vs) (u:Value) (N:List Int) (h1:W.ownsRow w.heap.size 3 1 u N.length (recV intV N)) (h2:N.length≤l.length+1) (h3:∀ x,x∈N↔wayB l to Vs.length x=true):WaysOk w W l to (Vs++[u]):=fun n u' hu=>by
 rcases Nat.lt_or_ge n Vs.length with hn | hn
 ·rw [List.getElem?_append_left hn] at hu
  exact h n u' hu
 ·rw [List.getElem?_append_right hn] at hu
  rcases Nat.eq_zero_or_pos (n - Vs.length) with h0 | h0
  ·rw [h0] at hu
   simp only [List.getElem?_cons_zero,Option.some.injEq] at hu
   subst hu
   obtain rfl:n=Vs.length:=by omega
   exact ⟨N,h1,h2,h3⟩
  ·rw [List.getElem?_eq_none (by simp;omega)] at hu
   cases hu
def nextP (l:List Stp) (to:Int) (n z:Nat) (x:Int):Prop:=∃ j,∃ h:j < l.length,j < z∧l[j].1=x∧wayB l to n l[j].2.1=true
theorem nextP_all (l:List Stp) (to:Int) (n:Nat) (x:Int):nextP l to n l.length x↔wayB l to (n+1) x=true:=by
 rw [wayB,List.any_eq_true]
 constructor
 ·rintro ⟨j,hj,_,h1,h2⟩
  exact ⟨l[j],List.getElem_mem hj,by simp [h1,h2]⟩
 ·rintro ⟨s,hs,h⟩
  obtain ⟨j,hj,rfl⟩:=List.getElem_of_mem hs
  rw [Bool.and_eq_true,decide_eq_true_eq] at h
  exact ⟨j,hj,hj,h.1,h.2⟩
theorem nextP_no (l:List Stp) (to:Int) (n z:Nat) (x:Int) (hz:z < l.length) (h:wayB l to n l[z].2.1=false):nextP l to n (z+1) x↔nextP l to n z x:=by
 constructor
 ·rintro ⟨j,hj,h0,h1,h2⟩
  rcases Nat.lt_or_ge j z with h' | h'
  ·exact ⟨j,hj,h',h1,h2⟩
  ·obtain rfl:j=z:=by omega
   rw [h] at h2;cases h2
 ·rintro ⟨j,hj,h0,h1,h2⟩
  exact ⟨j,hj,by omega,h1,h2⟩
theorem nextP_yes (l:List Stp) (to:Int) (n z:Nat) (x:Int) (hz:z < l.length) (h:wayB l to n l[z].2.1=true):nextP l to n (z+1) x↔x=l[z].1∨nextP l to n z x:=by
 constructor
 ·rintro ⟨j,hj,h0,h1,h2⟩
  rcases Nat.lt_or_ge j z with h' | h'
  ·exact .inr ⟨j,hj,h',h1,h2⟩
  ·obtain rfl:j=z:=by omega
   exact .inl h1.symm
 ·rintro (rfl | ⟨j,hj,h0,h1,h2⟩)
  ·exact ⟨z,hz,by omega,rfl,h⟩
  ·exact ⟨j,hj,by omega,h1,h2⟩
def WaysRes (w:World) (l:List Stp) (to:Int) (many:Nat) (e:Ending) (w':World):Prop:=∃ v Vs,e=.returned v∧Below w.heap.size w w'∧Vs.length=many+1∧w'.ownsRow w.heap.size 22 1 v (many+1) Vs∧WaysOk w w' l to Vs
end Go.Proofs.YthamoeekiglphaaGreatDoor
namespace Go.Proofs.YthamoeekiglphaaGreatDoor
set_option maxRecDepth 100000
open Go.RowKit
set_option linter.unusedVariables false
section
variable {α:Type}
theorem ringAt_none (l:List (Sp α)) (n:Nat) (h:∀ j (hj:j < (startsL l).length),wayB l (startsL l)[j] n (startsL l)[j]=false):ringAt l n=none:=by
 unfold ringAt
 rw [List.find?_eq_none]
 intro s hs
 obtain ⟨j,hj,rfl⟩:=List.getElem_of_mem hs
 rw [h j hj];decide
theorem ringAt_some (l:List (Sp α)) (n k:Nat) (hk:k < (startsL l).length) (h:∀ j (hj:j < (startsL l).length),j < k→wayB l (startsL l)[j] n (startsL l)[j]=false) (hy:wayB l (startsL l)[k] n (startsL l)[k]=true):ringAt l n=some (startsL l)[k]:=by
 unfold ringAt
 rw [List.find?_eq_some_iff_getElem]
 refine ⟨hy,k,hk,rfl,fun j hj=>?_⟩
 rw [h j (by omega) hj];rfl
theorem ringL_none (l:List (Sp α)) (h:∀ j,1≤j→j≤(startsL l).length→ringAt l j=none):ringL l=none:=by
 have:ringN l=none:=by
  unfold ringN
  rw [fi_none]
  intro i hi
  rw [h (i+1) (by omega) (by omega)];rfl
 unfold ringL
 rw [this]
theorem ringL_some (l:List (Sp α)) (n:Nat) (s:Int) (hn:n < (startsL l).length) (h:∀ j,1≤j→j < n+1→ringAt l j=none) (hs:ringAt l (n+1)=some s):ringL l=some (ringPath l s (n+1) s):=by
 have:ringN l=some n:=by
  unfold ringN
  rw [fi_some]
  refine ⟨hn,by rw [hs];rfl,fun j hj=>?_⟩
  rw [h (j+1) (by omega) (by omega)];rfl
 unfold ringL
 rw [this]
 simp only
 rw [hs]
theorem path_next (l:List (Sp α)) (to:Int) (q:Nat) (a:Int) (i:Nat) (hi:i < l.length) (h1:l[i].1=a) (h2:wayB l to q l[i].2.1=true) (h3:∀ j (hj:j < l.length),j < i→¬ (l[j].1=a∧wayB l to q l[j].2.1=true)):ringPath l to (q+1) a=l[i]::ringPath l to q l[i].2.1:=by
 rw [ringPath]
 have:(l.find? fun s=>decide (s.1=a)&&wayB l to q s.2.1)=some l[i]:=by
  rw [List.find?_eq_some_iff_getElem]
  refine ⟨by simp [h1,h2],i,hi,rfl,fun j hj=>?_⟩
  have:=h3 j (by omega) hj
  by_cases e:l[j].1=a
  ·cases hw:wayB l to q l[j].2.1 with
   | true=>exact absurd ⟨e,hw⟩ this
   | false=>simp
  ·simp [e]
 rw [this]
theorem way_has (l:List (Sp α)) (to:Int) (q:Nat) (a:Int) (h:wayB l to (q+1) a=true):∃ i,∃ hi:i < l.length,l[i].1=a∧wayB l to q l[i].2.1=true:=by
 rw [wayB,List.any_eq_true] at h
 obtain ⟨s,hs,h⟩:=h
 obtain ⟨i,hi,rfl⟩:=List.getElem_of_mem hs
 rw [Bool.and_eq_true,decide_eq_true_eq] at h
 exact ⟨i,hi,h.1,h.2⟩
end
def PathS (l:List Stp) (s a:Int) (q:Nat) (P:List Stp) (k:Nat) (b:Bool) (i:Nat) (a':Int) (Q:List Stp) (kk:Nat):Prop :=
 (b=false∧a'=a∧Q=P∧kk=k∧∀ j (hj:j < l.length),j < i→¬ (l[j].1=a∧wayB l s q l[j].2.1=true))∨(b=true∧kk=k+1∧wayB l s q a'=true∧P++ringPath l s (q+1) a=Q++ringPath l s q a')
def RingRes (t:TypeId) (w:World) (r:Option (List Stp)) (e:Ending) (w':World):Prop:=∃ v L',e=.returned (.tuple #[v,.bool r.isSome])∧Below w.heap.size w w'∧w'.ownsRow w.heap.size t 3 v L'.length (recV stV L')∧StOf w' L' (r.getD [])
theorem StOf.nil (W:World):StOf W [] []:=⟨rfl,fun i x s h=>by simp at h⟩
theorem StOf.push {W:World} {L':List SVt} {L:List Stp} (h:StOf W L' L) (a b:Int) (u:Value) (E:List Ed) (hE:IsEds W u E):StOf W (L'++[(a,b,u)]) (L++[(a,b,E)]):=by
 refine ⟨by simp [h.1],fun i x s hx hs=>?_⟩
 rcases Nat.lt_or_ge i L'.length with hi | hi
 ·rw [List.getElem?_append_left hi] at hx
  rw [List.getElem?_append_left (by rw [← h.1];exact hi)] at hs
  exact h.2 i x s hx hs
 ·rw [List.getElem?_append_right hi] at hx
  rw [List.getElem?_append_right (by rw [← h.1];exact hi)] at hs
  rw [h.1] at hx
  rcases Nat.eq_zero_or_pos (i - L.length) with h0 | h0
  ·rw [h0] at hx hs
   simp only [List.getElem?_cons_zero,Option.some.injEq] at hx hs
   subst hx hs
   exact ⟨rfl,rfl,hE⟩
  ·rw [List.getElem?_eq_none (by simp;omega)] at hx
   cases hx
end Go.Proofs.YthamoeekiglphaaGreatDoor
namespace Go.Proofs.YthamoeekiglphaaGreatDoor
set_option maxRecDepth 100000
set_option linter.unusedVariables false
theorem ringL_few (l r:List Stp) (h:ringL l=some r):r.length≤l.length∨l=[]:=by
 by_cases h0:l=[]
 ·exact .inr h0
 ·left
  unfold ringL at h
  cases hn:ringN l with
  | none=>rw [hn] at h;cases h
  | some n =>
    rw [hn] at h
    simp only at h
    cases hs:ringAt l (n+1) with
    | none=>rw [hs] at h;cases h
    | some s =>
      rw [hs] at h
      simp only [Option.some.injEq] at h
      have hlt:=((fi_some _ _ _).1 hn).1
      have hp:=(path_ok l s (n+1) s (ring_at l (n+1) s hs).2.1).2.1
      rw [← h,hp]
      have hst:(startsL l).length≤l.length:=by
       have g:∀ (m:List Stp) (acc:List Int),(startsF acc m).length≤acc.length+m.length:=by
        intro m
        induction m with
        | nil=>intro acc;rw [startsF];simp
        | cons x m ih =>
          intro acc
          rw [startsF,List.length_cons]
          have:=ih (insI x.1 acc)
          have h2:∀ K:List Int,(insI x.1 K).length≤K.length+1:=by
           intro K
           induction K with
           | nil=>simp [insI]
           | cons y K ihK =>
             rw [insI]
             split
             ·simp;omega
             ·split<;>simp
          have:=h2 acc
          omega
       have:=g l []
       simpa [startsL] using this
      omega
theorem orderF_few (l:List Stp):∀ (n:Nat) (left o:List Int),orderF l n left=some o→o.length≤n
 | 0,left,o,h=>by
   rw [orderF] at h
   split at h
   ·cases h;simp
   ·cases h
 | n+1,left,o,h=>by
   rw [orderF] at h
   split at h
   ·cases h;simp
   ·cases hb:bestL l left with
    | none=>rw [hb] at h;cases h
    | some b =>
      rw [hb] at h
      simp only at h
      cases hr:orderF l n (left.filter fun x=>decide (x≠b)) with
      | none=>rw [hr] at h;cases h
      | some o' =>
        rw [hr] at h
        simp only [Option.some.injEq] at h
        have:=orderF_few l n _ o' hr
        rw [← h]
        simp
        omega
open Go.RowKit
attribute [local go_sem] ba_size
theorem stepOf_len12 (level:Int) (l:List Ed) (e:Ed):(stepOf level l e).length≤l.length+1:=by
 unfold stepOf
 rw [List.length_append]
 have h1:(if level=1∨level=2∧e.1≠3 then [one1 e] else []).length≤1:=by split<;>simp
 have h2:(if level=2∧e.1≠3 then l.filterMap fun g=>if g.1=3∧g.2.1=e.2.2.1 then some (two2 e g) else none else []).length≤l.length:=by
  split
  ·exact List.length_filterMap_le _ _
  ·simp
 omega
theorem steps_len12 (level:Int) (l:List Ed):(stepsL level l).length≤l.length*(l.length+1):=by
 unfold stepsL
 rw [List.length_flatMap]
 have h:=sum_le (fun e=>(stepOf level l e).length) (fun _=>l.length+1) l (fun e _=>stepOf_len12 level l e)
 rw [List.map_const',List.sum_replicate_nat] at h
 exact h
theorem flat_len (level:Int) (l:List Ed) (r:List Stp) (h:∀ s∈r,s∈stepsL level l):(flatL r).length≤r.length*2:=by
 unfold flatL
 rw [List.length_flatMap]
 have h:=sum_le (fun s:Stp=>s.2.2.length) (fun _=>2) r (fun s hs=>by
  rcases steps_cases level l s (h s hs) with ⟨e,_,_,rfl⟩ | ⟨_,e,_,g,_,hh⟩
  ·simp [one1]
  ·obtain ⟨_,_,_,rfl⟩:=hh
   simp [two2])
 rw [List.map_const',List.sum_replicate_nat] at h
 exact h
theorem wf_bounds {h:List Ev} (hw:WF h) (level:Int):(edgesL h).length≤512∧(stepsL level (edgesL h)).length≤262656∧(nodeL h).length≤301∧(flatL ((ringL (stepsL level (edgesL h))).getD [])).length≤525312:=by
 have h0:=hw.1
 have h1:=edges_few h
 have e1:(edgesL h).length≤512:=by omega
 have h2:=steps_len12 level (edgesL h)
 have e2:(stepsL level (edgesL h)).length≤262656:=Nat.le_trans h2 (Nat.le_trans (Nat.mul_le_mul e1 (Nat.succ_le_succ e1)) (by decide))
 refine ⟨e1,e2,nd_len h 301,?_⟩
 cases hr:ringL (stepsL level (edgesL h)) with
 | none=>simp [flatL]
 | some r =>
   simp only [Option.getD_some]
   have h3:=flat_len level (edgesL h) r (ring_some _ r hr).2.1
   rcases ringL_few _ r hr with h4 | h4
   ·omega
   ·rw [h4] at hr;cases hr
theorem wf_keys {h:List Ev} (hw:WF h):∀ x∈h,x.2.2.1.length≤1125899906842624:=by
 intro x hx
 obtain ⟨i,hi,rfl⟩:=List.getElem_of_mem hx
 have hm:=wf_may hw hi
 rw [ev_get h i hi] at hm
 unfold mayE at hm
 obtain ⟨_,hm⟩:=hm
 split at hm
 ·omega
 ·have:=hm.1
  rw [this]
  simp
theorem own_shape12 {W:World} {B e k n:Nat} {v:Value} {xs:List Value} (h:W.ownsRow B e k v n xs):∃ ad c,v=.slice ad n c:=by
 rcases h.2 with ⟨rfl,rfl⟩ | ⟨g,cap,cur,rfl,_⟩
 ·exact ⟨none,0,rfl⟩
 ·exact ⟨_,_,rfl⟩
theorem own_some12 {W:World} {B e k n:Nat} {v:Value} {xs:List Value} (h:W.ownsRow B e k v n xs) (h0:0 < n):∃ g cc,v=.slice (some ⟨g,0,none⟩) n cc∧n≤cc∧cc≤maxLen:=by
 rcases h.2 with ⟨_,h0'⟩ | ⟨g,cap,cur,rfl,_,_,h1,h2,_⟩
 ·omega
 ·exact ⟨g,cap,rfl,h1,h2⟩
theorem owns_base12 {W:World} {B C e k n:Nat} {v:Value} {xs:List Value} (h:W.ownsRow B e k v n xs) (hC:C≤B):W.ownsRow C e k v n xs:=by
 refine ⟨h.1,?_⟩
 rcases h.2 with hh | ⟨g,cap,cur,hv,hb,hg,rest⟩
 ·exact .inl hh
 ·exact .inr ⟨g,cap,cur,hv,Nat.le_trans hC hb,hg,rest⟩
set_option maxHeartbeats 2000000 in
theorem rfirst_any (h:List Ev) (v:Value) (w:World) (hT:IsEvs w v h) (t:Int) (m:Nat) (hm:m≤h.length) :
 Calls Tryz.prog 50 #[v,.int .i64 t,.int .i64 (m:Int)] w fun e w'=>e=.returned (.int .i64 (oI (fstL h t m)))∧Below w.heap.size w w':=by
 obtain ⟨a,cap,rfl,h1,h2,h3,HC⟩:=hT.reads
 obtain ⟨n,hn⟩:∃ n,h.length=n:=⟨_,rfl⟩
 have HN:Hid (h.length=n):=hn
 rw [hn] at h1 h3 hm ⊢
 clear hT hn
 go_enter Tryz.func50,Tryz.ntmps50
 go_wp2_with fail
 go_loopw [7] (fun i wr=>∃ k:Nat,k≤m∧i=.int .i64 k∧Hid (∀ j,j < k→ofTxn h t j=false)∧Below w.heap.size w wr) (fun i _=>m - (RowKit.intOf i).toNat)
 case atStart=>exact ⟨0,Nat.zero_le _,rfl,(fun j hj=>by omega),Below.refl _ _⟩
 case round =>
  obtain ⟨k,hk,rfl,HA,hbw⟩:=hrel
  by_cases hlt:k < m
  ·have hk1:k < h.length:=by have:=HN.out;omega
   have hkn:k < n:=by omega
   obtain ⟨bb,off,rfl,HQ⟩:=HC.out (by omega)
   obtain ⟨c0,c1,c2,c3⟩:=HQ.out k hk1 _ hbw
   obtain ⟨⟨x0,x1,x2,x3⟩,hx⟩:∃ x,ev h k=x:=⟨_,rfl⟩
   have HX:Hid (ev h k=(x0,x1,x2,x3)):=hx
   rw [hx] at c0 c1 c2 c3
   simp only at c0 c1 c2 c3
   clear hx
   by_cases d:x1=t
   ·have e1:(x1==t)=true:=by rw [d];exact beq_self_eq_true _
    have HR:Hid (fstL h t m=some k):=(fi_some _ _ _).2 ⟨hlt,by show decide _=true;rw [HX.out];exact decide_eq_true (d),HA.out⟩
    go_wp2_with fail
    go_ret
    exact ⟨by rw [HR.out];rfl,hbw⟩
   ·have e1:(x1==t)=false:=beq_eq_false_iff_ne.2 d
    have HA':Hid (∀ j,j < k+1→ofTxn h t j=false):=upto_next _ k HA.out (by show decide _=false;rw [HX.out];exact decide_eq_false (d))
    go_wp2_with fail
    refine ⟨?relrfirst_any1,?mearfirst_any1⟩
    case relrfirst_any1=>exact ⟨k+1,by omega,by first | go_num | simp,HA',hbw⟩
    case mearfirst_any1=>simp [RowKit.intOf];omega
  ·have HR:Hid (fstL h t m=none):=(fi_none _ _).2 (by
    obtain rfl:k=m:=by omega
    exact HA.out)
   go_wp2_with fail
   go_ret
   exact ⟨by rw [HR.out];rfl,hbw⟩
set_option maxHeartbeats 2000000 in
theorem rend_any (h:List Ev) (v:Value) (w:World) (hT:IsEvs w v h) (t:Int) (m:Nat) (hm:m≤h.length) :
 Calls Tryz.prog 51 #[v,.int .i64 t,.int .i64 (m:Int)] w fun e w'=>e=.returned (.int .i64 (oI (endL h t m)))∧Below w.heap.size w w':=by
 obtain ⟨a,cap,rfl,h1,h2,h3,HC⟩:=hT.reads
 obtain ⟨n,hn⟩:∃ n,h.length=n:=⟨_,rfl⟩
 have HN:Hid (h.length=n):=hn
 rw [hn] at h1 h3 hm ⊢
 clear hT hn
 go_enter Tryz.func51,Tryz.ntmps51
 go_wp2_with fail
 go_loopw [7] (fun i wr=>∃ k:Nat,k≤m∧i=.int .i64 k∧Hid (∀ j,j < k→isEnd h t j=false)∧Below w.heap.size w wr) (fun i _=>m - (RowKit.intOf i).toNat)
 case atStart=>exact ⟨0,Nat.zero_le _,rfl,(fun j hj=>by omega),Below.refl _ _⟩
 case round =>
  obtain ⟨k,hk,rfl,HA,hbw⟩:=hrel
  by_cases hlt:k < m
  ·have hk1:k < h.length:=by have:=HN.out;omega
   have hkn:k < n:=by omega
   obtain ⟨bb,off,rfl,HQ⟩:=HC.out (by omega)
   obtain ⟨c0,c1,c2,c3⟩:=HQ.out k hk1 _ hbw
   obtain ⟨⟨x0,x1,x2,x3⟩,hx⟩:∃ x,ev h k=x:=⟨_,rfl⟩
   have HX:Hid (ev h k=(x0,x1,x2,x3)):=hx
   rw [hx] at c0 c1 c2 c3
   simp only at c0 c1 c2 c3
   clear hx
   by_cases d:x1=t
   ·have e1:(x1==t)=true:=by rw [d];exact beq_self_eq_true _
    by_cases d4:x0=4
    ·have e4:(x0==4)=true:=by rw [d4];rfl
     have HR:Hid (endL h t m=some k):=(fi_some _ _ _).2 ⟨hlt,by show decide _=true;rw [HX.out];exact decide_eq_true (⟨d,Or.inl d4⟩),HA.out⟩
     go_wp2_with fail
     go_ret
     exact ⟨by rw [HR.out];rfl,hbw⟩
    ·have e4:(x0==4)=false:=beq_eq_false_iff_ne.2 d4
     by_cases d5:x0=5
     ·have e5:(x0==5)=true:=by rw [d5];rfl
      have HR:Hid (endL h t m=some k):=(fi_some _ _ _).2 ⟨hlt,by show decide _=true;rw [HX.out];exact decide_eq_true (⟨d,Or.inr d5⟩),HA.out⟩
      go_wp2_with fail
      go_ret
      exact ⟨by rw [HR.out];rfl,hbw⟩
     ·have e5:(x0==5)=false:=beq_eq_false_iff_ne.2 d5
      have HA':Hid (∀ j,j < k+1→isEnd h t j=false):=upto_next _ k HA.out (by show decide _=false;rw [HX.out];exact decide_eq_false (fun hh=>hh.2.elim d4 d5))
      go_wp2_with fail
      refine ⟨?relrend_any1,?mearend_any1⟩
      case relrend_any1=>exact ⟨k+1,by omega,by first | go_num | simp,HA',hbw⟩
      case mearend_any1=>simp [RowKit.intOf];omega
   ·have e1:(x1==t)=false:=beq_eq_false_iff_ne.2 d
    have HA':Hid (∀ j,j < k+1→isEnd h t j=false):=upto_next _ k HA.out (by show decide _=false;rw [HX.out];exact decide_eq_false (fun hh=>d hh.1))
    go_wp2_with fail
    refine ⟨?relrend_any2,?mearend_any2⟩
    case relrend_any2=>exact ⟨k+1,by omega,by first | go_num | simp,HA',hbw⟩
    case mearend_any2=>simp [RowKit.intOf];omega
  ·have HR:Hid (endL h t m=none):=(fi_none _ _).2 (by
    obtain rfl:k=m:=by omega
    exact HA.out)
   go_wp2_with fail
   go_ret
   exact ⟨by rw [HR.out];rfl,hbw⟩
set_option maxHeartbeats 2000000 in
theorem rwriter_any (h:List Ev) (v:Value) (w:World) (hT:IsEvs w v h) (key val:List UInt8) :
 Calls Tryz.prog 52 #[v,.string ⟨key.toArray⟩,.string ⟨val.toArray⟩] w fun e w'=>e=.returned (.int .i64 (oI (writerL h key val)))∧Below w.heap.size w w':=by
 obtain ⟨a,cap,rfl,h1,h2,h3,HC⟩:=hT.reads
 obtain ⟨n,hn⟩:∃ n,h.length=n:=⟨_,rfl⟩
 have HN:Hid (h.length=n):=hn
 have HW:Hid (writerL h key val=fi (isWr h key val) n):=by show _=_;unfold writerL;rw [hn]
 rw [HW.out]
 rw [hn] at h1 h3 ⊢
 clear hT hn
 go_enter Tryz.func52,Tryz.ntmps52
 go_wp2_with fail
 go_loopw [7] (fun i wr=>∃ k:Nat,k≤n∧i=.int .i64 k∧Hid (∀ j,j < k→isWr h key val j=false)∧Below w.heap.size w wr) (fun i _=>n - (RowKit.intOf i).toNat)
 case atStart=>exact ⟨0,Nat.zero_le _,rfl,(fun j hj=>by omega),Below.refl _ _⟩
 case round =>
  obtain ⟨k,hk,rfl,HA,hbw⟩:=hrel
  by_cases hlt:k < n
  ·have hk1:k < h.length:=by have:=HN.out;omega
   have hkn:k < n:=by omega
   obtain ⟨bb,off,rfl,HQ⟩:=HC.out (by omega)
   obtain ⟨c0,c1,c2,c3⟩:=HQ.out k hk1 _ hbw
   obtain ⟨⟨x0,x1,x2,x3⟩,hx⟩:∃ x,ev h k=x:=⟨_,rfl⟩
   have HX:Hid (ev h k=(x0,x1,x2,x3)):=hx
   rw [hx] at c0 c1 c2 c3
   simp only at c0 c1 c2 c3
   clear hx
   by_cases d:x0=3
   ·have e1:(x0==3)=true:=by rw [d];rfl
    by_cases d4:x2=key
    ·have e4:(x2==key)=true:=by rw [d4];exact beq_self_eq_true _
     by_cases d5:x3=val
     ·have e5:(x3==val)=true:=by rw [d5];exact beq_self_eq_true _
      have HR:Hid (fi (isWr h key val) n=some k):=(fi_some _ _ _).2 ⟨hlt,by show decide _=true;rw [HX.out];exact decide_eq_true (⟨d,d4,d5⟩),HA.out⟩
      go_wp2_with fail
      go_ret
      exact ⟨by rw [HR.out];rfl,hbw⟩
     ·have e5:(x3==val)=false:=beq_eq_false_iff_ne.2 d5
      have HA':Hid (∀ j,j < k+1→isWr h key val j=false):=upto_next _ k HA.out (by show decide _=false;rw [HX.out];exact decide_eq_false (fun hh=>d5 hh.2.2))
      go_wp2_with fail
      refine ⟨?relrwriter_any1,?mearwriter_any1⟩
      case relrwriter_any1=>exact ⟨k+1,by omega,by first | go_num | simp,HA',hbw⟩
      case mearwriter_any1=>simp [RowKit.intOf];omega
    ·have e4:(x2==key)=false:=beq_eq_false_iff_ne.2 d4
     have HA':Hid (∀ j,j < k+1→isWr h key val j=false):=upto_next _ k HA.out (by show decide _=false;rw [HX.out];exact decide_eq_false (fun hh=>d4 hh.2.1))
     go_wp2_with fail
     refine ⟨?relrwriter_any2,?mearwriter_any2⟩
     case relrwriter_any2=>exact ⟨k+1,by omega,by first | go_num | simp,HA',hbw⟩
     case mearwriter_any2=>simp [RowKit.intOf];omega
   ·have e1:(x0==3)=false:=beq_eq_false_iff_ne.2 d
    have HA':Hid (∀ j,j < k+1→isWr h key val j=false):=upto_next _ k HA.out (by show decide _=false;rw [HX.out];exact decide_eq_false (fun hh=>d hh.1))
    go_wp2_with fail
    refine ⟨?relrwriter_any3,?mearwriter_any3⟩
    case relrwriter_any3=>exact ⟨k+1,by omega,by first | go_num | simp,HA',hbw⟩
    case mearwriter_any3=>simp [RowKit.intOf];omega
  ·have HR:Hid (fi (isWr h key val) n=none):=(fi_none _ _).2 (by
    obtain rfl:k=n:=by omega
    exact HA.out)
   go_wp2_with fail
   go_ret
   exact ⟨by rw [HR.out];rfl,hbw⟩
theorem ne_empty' (l:List UInt8) (h:l≠[]):l.isEmpty=false:=by cases l with
 | nil=>exact absurd rfl h
 | cons _ _=>rfl
set_option maxHeartbeats 1000000 in
theorem rmay_any (k t:Int) (a b:List UInt8) (w:World) :
 Calls Tryz.prog 31 #[.agg #[.int .i64 k,.int .i64 t,.string ⟨a.toArray⟩,.string ⟨b.toArray⟩]] w fun e w'=>e=.returned (.bool (decide (mayE (k,t,a,b))))∧Below w.heap.size w w':=by
 have al:∀ o,Below w.heap.size w (w.alloc o):=fun o=>(Below.refl _ w).alloc (Nat.le_refl _) o
 by_cases c0:k < 1
 ·rw [decide_eq_false (show ¬ mayE _ from fun h=>by have h:=mayE_range h;omega)]
  go_enter Tryz.func31,Tryz.ntmps31
  go_wp2_with fail
  go_ret
  exact ⟨rfl,al _⟩
 ·have c0':¬ k < 1:=c0
  by_cases c1:5 < k
  ·rw [decide_eq_false (show ¬ mayE _ from fun h=>by have h:=mayE_range h;omega)]
   go_enter Tryz.func31,Tryz.ntmps31
   go_wp2_with fail
   go_ret
   exact ⟨rfl,al _⟩
  ·have c1':¬ 5 < k:=c1
   by_cases c2:t < 1
   ·rw [decide_eq_false (show ¬ mayE _ from fun h=>by have h:=mayE_range h;omega)]
    go_enter Tryz.func31,Tryz.ntmps31
    go_wp2_with fail
    go_ret
    exact ⟨rfl,al _⟩
   ·have c2':¬ t < 1:=c2
    by_cases c3:32 < t
    ·rw [decide_eq_false (show ¬ mayE _ from fun h=>by have h:=mayE_range h;omega)]
     go_enter Tryz.func31,Tryz.ntmps31
     go_wp2_with fail
     go_ret
     exact ⟨rfl,al _⟩
    ·have c3':¬ 32 < t:=c3
     by_cases u1:k=2∨k=3
     ·have q1:k=2∨k=3:=u1
      by_cases d1:a.length < 1
      ·have j1:(a.length:Int) < 1:=by omega
       rw [decide_eq_false (show ¬ mayE _ from fun h=>by have h:=(mayE_key u1).1 h;omega)]
       rcases u1 with rfl | rfl
       all_goals
        go_enter Tryz.func31,Tryz.ntmps31
        go_wp2_with fail
        go_ret
        exact ⟨rfl,al _⟩
      ·have j1:¬ (a.length:Int) < 1:=by omega
       by_cases d2:32 < a.length
       ·have j2:(32:Int) < (a.length:Int):=by omega
        rw [decide_eq_false (show ¬ mayE _ from fun h=>by have h:=(mayE_key u1).1 h;omega)]
        rcases u1 with rfl | rfl
        all_goals
         go_enter Tryz.func31,Tryz.ntmps31
         go_wp2_with fail
         go_ret
         exact ⟨rfl,al _⟩
       ·have j2:¬ (32:Int) < (a.length:Int):=by omega
        by_cases d3:32 < b.length
        ·have j3:(32:Int) < (b.length:Int):=by omega
         rw [decide_eq_false (show ¬ mayE _ from fun h=>by have h:=(mayE_key u1).1 h;omega)]
         rcases u1 with rfl | rfl
         all_goals
          go_enter Tryz.func31,Tryz.ntmps31
          go_wp2_with fail
          go_ret
          exact ⟨rfl,al _⟩
        ·have j3:¬ (32:Int) < (b.length:Int):=by omega
         rcases u1 with rfl | rfl
         ·rw [decide_eq_true (show mayE _ from by rw [mayE_key q1];omega)]
          go_enter Tryz.func31,Tryz.ntmps31
          go_wp2_with fail
          go_ret
          exact ⟨rfl,al _⟩
         ·by_cases d4:0 < b.length
          ·have j4:(0:Int) < (b.length:Int):=by omega
           rw [decide_eq_true (show mayE _ from by rw [mayE_key q1];omega)]
           go_enter Tryz.func31,Tryz.ntmps31
           go_wp2_with fail
           go_ret
           exact ⟨rfl,al _⟩
          ·have j4:¬ (0:Int) < (b.length:Int):=by omega
           rw [decide_eq_false (show ¬ mayE _ from fun h=>by have h:=(mayE_key q1).1 h;omega)]
           go_enter Tryz.func31,Tryz.ntmps31
           go_wp2_with fail
           go_ret
           exact ⟨rfl,al _⟩
     ·have q1:(k != 2)=true:=by rw [bne_iff_ne];omega
      have q2:(k != 3)=true:=by rw [bne_iff_ne];omega
      by_cases d1:a=[]
      ·by_cases d2:b=[]
       ·rw [decide_eq_true (show mayE _ from by rw [mayE_unkey u1];exact ⟨by omega,d1,d2⟩)]
        subst d1 d2
        go_enter Tryz.func31,Tryz.ntmps31
        go_wp2_with fail
        go_ret
        exact ⟨rfl,al _⟩
       ·rw [decide_eq_false (show ¬ mayE _ from fun h=>by exact d2 ((mayE_unkey u1).1 h).2.2)]
        have n2:=ne_empty' b d2
        subst d1
        go_enter Tryz.func31,Tryz.ntmps31
        go_wp2_with fail
        go_ret
        exact ⟨rfl,al _⟩
      ·rw [decide_eq_false (show ¬ mayE _ from fun h=>by exact d1 ((mayE_unkey u1).1 h).2.1)]
       have n1:=ne_empty' a d1
       go_enter Tryz.func31,Tryz.ntmps31
       go_wp2_with fail
       go_ret
       exact ⟨rfl,al _⟩
set_option maxHeartbeats 2000000 in
theorem rcounts_any (h:List Ev) (v:Value) (w:World) (hT:IsEvs w v h) (i:Int) :
 Calls Tryz.prog 118 #[v,.int .i64 i] w fun e w'=>e=.returned (.bool (countI h i))∧Below w.heap.size w w':=by
 have C1:=fun (t:Int) W hW=>rend_any h v W (hT.below (w':=W) hW) t h.length (Nat.le_refl _)
 obtain ⟨a,cap,rfl,h1,h2,h3,HC⟩:=hT.reads
 obtain ⟨n,hn⟩:∃ n,h.length=n:=⟨_,rfl⟩
 have HN:Hid (h.length=n):=hn
 simp only [hn] at C1
 rw [hn] at h1 h3 ⊢
 clear hT hn
 by_cases i0:i < 0
 ·rw [show countI h i=false by unfold countI;rw [decide_eq_false (by omega)];rfl]
  go_enter Tryz.func118,Tryz.ntmps118
  go_wp2_with fail
  go_ret
  exact ⟨rfl,Below.refl _ _⟩
 ·obtain ⟨q,rfl⟩:∃ q:Nat,i=(q:Int):=⟨i.toNat,by omega⟩
  have HQQ:Hid (countI h (q:Int)=countsB h q):=by show _=_;unfold countI;rw [decide_eq_true (by omega)];simp
  by_cases i1:q < n
  ·have hq1:q < h.length:=by have:=HN.out;omega
   have j1:¬ (n:Int)≤(q:Int):=by omega
   have j11:¬ n≤q:=by omega
   obtain ⟨bb,off,rfl,HQ⟩:=HC.out (by omega)
   obtain ⟨c0,c1,_,_⟩:=HQ.out q hq1 _ (Below.refl _ _)
   obtain ⟨⟨x0,x1,x2,x3⟩,hx⟩:∃ x,ev h q=x:=⟨_,rfl⟩
   have HX:Hid (ev h q=(x0,x1,x2,x3)):=hx
   rw [hx] at c0 c1
   simp only at c0 c1
   clear hx
   by_cases d:x0=2
   ·have e2:(x0 != 2)=false:=by rw [d];rfl
    have D:=C1 x1
    rcases he:endL h x1 n with _ | e
    ·rw [HQQ.out,count_open h q (by rw [HX.out,HN.out];exact he)]
     rw [he] at D
     simp only [oI] at D
     have j2:¬ (q:Int) < -1:=by omega
     clear he d
     go_enter Tryz.func118,Tryz.ntmps118
     go_wp2_with fail
     refine (D _ (Below.refl _ _)).mono ?_
     rintro e w1 ⟨rfl,b1⟩
     go_wp2_with fail
     go_ret
     exact ⟨rfl,b1⟩
    ·have hel:e < h.length:=by have:=((fi_some _ _ _).1 he).1;have:=HN.out;omega
     have HCE:Hid (countsB h q=(decide (q < e)&&decide ((ev h e).1=4))):=count_end h q e hq1 (by rw [HX.out];exact d) (by rw [HX.out,HN.out];exact he)
     rw [HQQ.out,HCE.out]
     rw [he] at D
     simp only [oI] at D
     have HE:Hid (e < h.length):=hel
     have hen:e < n:=by have:=HN.out;omega
     clear he d hel
     by_cases l1:q < e
     ·have l2:(q:Int) < (e:Int):=by omega
      rw [decide_eq_true l1]
      obtain ⟨z0,hz⟩:∃ z,(ev h e).1=z:=⟨_,rfl⟩
      have HZ:Hid ((ev h e).1=z0):=hz
      rw [hz]
      clear hz
      by_cases l3:z0=4
      ·have l4:(z0==4)=true:=by rw [l3];rfl
       rw [decide_eq_true l3]
       clear l3
       go_enter Tryz.func118,Tryz.ntmps118
       go_wp2_with fail
       refine (D _ (Below.refl _ _)).mono ?_
       rintro e' w1 ⟨rfl,b1⟩
       have m0:=(HQ.out e HE.out _ b1).1
       rw [HZ.out] at m0
       go_wp2_with fail
       go_ret
       exact ⟨rfl,b1⟩
      ·have l4:(z0==4)=false:=beq_eq_false_iff_ne.2 l3
       rw [decide_eq_false l3]
       go_enter Tryz.func118,Tryz.ntmps118
       go_wp2_with fail
       refine (D _ (Below.refl _ _)).mono ?_
       rintro e' w1 ⟨rfl,b1⟩
       have m0:=(HQ.out e HE.out _ b1).1
       rw [HZ.out] at m0
       go_wp2_with fail
       go_ret
       exact ⟨rfl,b1⟩
     ·have l2:¬ (q:Int) < (e:Int):=by omega
      rw [decide_eq_false l1,Bool.false_and]
      go_enter Tryz.func118,Tryz.ntmps118
      go_wp2_with fail
      refine (D _ (Below.refl _ _)).mono ?_
      rintro e' w1 ⟨rfl,b1⟩
      go_wp2_with fail
      go_ret
      exact ⟨rfl,b1⟩
   ·have e2:(x0 != 2)=true:=bne_iff_ne.2 d
    rw [HQQ.out,count_kind h q (by rw [HX.out];exact d)]
    go_enter Tryz.func118,Tryz.ntmps118
    go_wp2_with fail
    go_ret
    exact ⟨rfl,Below.refl _ _⟩
  ·have j1:(n:Int)≤(q:Int):=by omega
   have j11:n≤q:=by omega
   rw [HQQ.out,count_out h q (by have:=HN.out;omega)]
   go_enter Tryz.func118,Tryz.ntmps118
   go_wp2_with fail
   go_ret
   exact ⟨rfl,Below.refl _ _⟩
set_option maxHeartbeats 2000000 in
theorem rlast_any (h:List Ev) (v:Value) (w:World) (hT:IsEvs w v h) (t:Int) (key:List UInt8) (before:Int) :
 Calls Tryz.prog 119 #[v,.int .i64 t,.string ⟨key.toArray⟩,.int .i64 before] w fun e w'=>e=.returned (.int .i64 (oI (lastL h t key before)))∧Below w.heap.size w w':=by
 obtain ⟨a,cap,rfl,h1,h2,h3,HC⟩:=hT.reads
 obtain ⟨n,hn⟩:∃ n,h.length=n:=⟨_,rfl⟩
 have HN:Hid (h.length=n):=hn
 rw [hn] at h1 h3 ⊢
 clear hT hn
 go_enter Tryz.func119,Tryz.ntmps119
 go_wp2_with fail
 go_loopw [9,10] (fun o i wr=>∃ k:Nat,k≤n∧(k=0∨(k:Int)≤before)∧o=.int .i64 (oI (lastN h t key k))∧i=.int .i64 k∧Below w.heap.size w wr) (fun _ i _=>n - (RowKit.intOf i).toNat)
 case atStart=>exact ⟨0,Nat.zero_le _,Or.inl rfl,rfl,rfl,Below.refl _ _⟩
 case round =>
  obtain ⟨k,hk,hkb,rfl,rfl,hbw⟩:=hrel
  by_cases hlt:k < n
  ·by_cases hlb:(k:Int) < before
   ·have hk1:k < h.length:=by have:=HN.out;omega
    obtain ⟨bb,off,rfl,HQ⟩:=HC.out (by omega)
    obtain ⟨c0,c1,c2,c3⟩:=HQ.out k hk1 _ hbw
    obtain ⟨⟨x0,x1,x2,x3⟩,hx⟩:∃ x,ev h k=x:=⟨_,rfl⟩
    have HX:Hid (ev h k=(x0,x1,x2,x3)):=hx
    rw [hx] at c0 c1 c2 c3
    simp only at c0 c1 c2 c3
    clear hx
    by_cases d:x0=3
    ·have e1:(x0==3)=true:=by rw [d];rfl
     by_cases d4:x1=t
     ·have e4:(x1==t)=true:=by rw [d4];exact beq_self_eq_true _
      by_cases d5:x2=key
      ·have e5:(x2==key)=true:=by rw [d5];exact beq_self_eq_true _
       have HS:Hid (lastN h t key (k+1)=some k):=by
        show la (isWrT h t key) (k+1)=_
        rw [la,show isWrT h t key k=true by show decide _=true;rw [HX.out];exact decide_eq_true (⟨d,d4,d5⟩)];rfl
       go_wp2_with fail
       refine ⟨?relA,?meaA⟩
       case relA=>exact ⟨k+1,by omega,by omega,by rw [HS.out]<;>rfl,by first | go_num | simp,hbw⟩
       case meaA=>simp [RowKit.intOf];omega
      ·have e5:(x2==key)=false:=beq_eq_false_iff_ne.2 d5
       have HS:Hid (lastN h t key (k+1)=lastN h t key k):=by
        show la (isWrT h t key) (k+1)=_
        rw [la,show isWrT h t key k=false by show decide _=false;rw [HX.out];exact decide_eq_false (fun hh=>d5 hh.2.2)];rfl
       go_wp2_with fail
       refine ⟨?relB,?meaB⟩
       case relB=>exact ⟨k+1,by omega,by omega,by rw [HS.out]<;>rfl,by first | go_num | simp,hbw⟩
       case meaB=>simp [RowKit.intOf];omega
     ·have e4:(x1==t)=false:=beq_eq_false_iff_ne.2 d4
      have HS:Hid (lastN h t key (k+1)=lastN h t key k):=by
       show la (isWrT h t key) (k+1)=_
       rw [la,show isWrT h t key k=false by show decide _=false;rw [HX.out];exact decide_eq_false (fun hh=>d4 hh.2.1)];rfl
      go_wp2_with fail
      refine ⟨?relC,?meaC⟩
      case relC=>exact ⟨k+1,by omega,by omega,by rw [HS.out]<;>rfl,by first | go_num | simp,hbw⟩
      case meaC=>simp [RowKit.intOf];omega
    ·have e1:(x0==3)=false:=beq_eq_false_iff_ne.2 d
     have HS:Hid (lastN h t key (k+1)=lastN h t key k):=by
      show la (isWrT h t key) (k+1)=_
      rw [la,show isWrT h t key k=false by show decide _=false;rw [HX.out];exact decide_eq_false (fun hh=>d hh.1)];rfl
     go_wp2_with fail
     refine ⟨?relD,?meaD⟩
     case relD=>exact ⟨k+1,by omega,by omega,by rw [HS.out]<;>rfl,by first | go_num | simp,hbw⟩
     case meaD=>simp [RowKit.intOf];omega
   ·have HR:Hid (lastL h t key before=lastN h t key k):=last_end h t key before k (by have:=HN.out;omega) hkb (Or.inr (by omega))
    go_wp2_with fail
    go_ret
    exact ⟨by rw [HR.out];rfl,hbw⟩
  ·have HR:Hid (lastL h t key before=lastN h t key k):=last_end h t key before k (by have:=HN.out;omega) hkb (Or.inl (by have:=HN.out;omega))
   go_wp2_with fail
   go_ret
   exact ⟨by rw [HR.out];rfl,hbw⟩
theorem bads_len (h:List Ev):(badsL h).length≤h.length:=by
 unfold badsL
 have:=List.length_filterMap_le (fun i=>if (atL h i).1=0 then none else some (atL h i)) (List.range h.length)
 rw [List.length_range] at this
 exact this
attribute [local go_sem] ba_size ba_get
set_option maxHeartbeats 2000000 in
theorem rless_any (a b:List UInt8) (ha:a.length≤9223372036854775807) (hb:b.length≤9223372036854775807) (w:World) :
 Calls Tryz.prog 120 #[.string ⟨a.toArray⟩,.string ⟨b.toArray⟩] w fun e w'=>e=.returned (.bool (lessB a b))∧Below w.heap.size w w':=by
 obtain ⟨O,hO⟩:∃ O,lessB a b=O:=⟨_,rfl⟩
 rw [hO]
 have H0:Hid (lessB (a.drop 0) (b.drop 0)=O):=hO
 clear hO
 go_enter Tryz.func120,Tryz.ntmps120
 go_wp2_with fail
 go_loopw [5] (fun i wr=>∃ k:Nat,k≤a.length∧k≤b.length∧i=.int .i64 k∧Hid (lessB (a.drop k) (b.drop k)=O)∧Below w.heap.size w wr) (fun i _=>a.length - (RowKit.intOf i).toNat)
 case atStart=>exact ⟨0,Nat.zero_le _,Nat.zero_le _,rfl,H0,Below.refl _ _⟩
 case round =>
  obtain ⟨k,hka,hkb,rfl,HK,hbw⟩:=hrel
  by_cases hla:k < a.length
  ·by_cases hlb:k < b.length
   ·have HD:Hid (lessB (a[k]::a.drop (k+1)) (b[k]::b.drop (k+1))=O):=by
     have:=HK.out
     rw [List.drop_eq_getElem_cons hla,List.drop_eq_getElem_cons hlb] at this
     exact this
    obtain ⟨x,hx⟩:∃ x,a[k]=x:=⟨_,rfl⟩
    obtain ⟨y,hy⟩:∃ y,b[k]=y:=⟨_,rfl⟩
    rw [hx,hy] at HD
    have i1:(k:Int) < (a.length:Int):=by omega
    have i2:(k:Int) < (b.length:Int):=by omega
    by_cases d:x=y
    ·have HD':Hid (lessB (a.drop (k+1)) (b.drop (k+1))=O):=by
      have:=HD.out
      rw [lessB_same x y _ _ d] at this
      exact this
     have e1:((x.toNat:Int) != (y.toNat:Int))=false:=by rw [d];simp
     go_wp2_with fail
     go_quiet (fail)
     go_wp2_with fail
     refine ⟨?relA,?meaA⟩
     case relA=>exact ⟨k+1,by omega,by omega,by first | go_num | simp,HD',below_drewN hbw _⟩
     case meaA=>simp [RowKit.intOf];omega
    ·have HR:Hid (O=decide (x.toNat < y.toNat)):=by
      have:=HD.out
      rw [lessB_diff x y _ _ d] at this
      exact this.symm
     have e1:((x.toNat:Int) != (y.toNat:Int))=true:=bne_iff_ne.2 (fun hh=>d (UInt8.toNat_inj.1 (by omega)))
     go_wp2_with fail
     go_quiet (fail)
     go_wp2_with fail
     go_quiet (fail)
     go_wp2_with fail
     go_ret
     exact ⟨by rw [HR.out];rfl,below_drewN (below_drewN hbw _) _⟩
   ·have HR:Hid (O=decide (a.length < b.length)):=by
     have:=HK.out
     have hb0:b.drop k=[]:=List.drop_eq_nil_of_le (by omega)
     rw [List.drop_eq_getElem_cons hla,hb0,lessB_cons_nil] at this
     show O=_
     rw [← this,decide_eq_false (by omega)]
    have i1:(k:Int) < (a.length:Int):=by omega
    have i2:¬ (k:Int) < (b.length:Int):=by omega
    go_wp2_with fail
    go_ret
    exact ⟨by rw [HR.out];rfl,hbw⟩
  ·have HR:Hid (O=decide (a.length < b.length)):=by
    have:=HK.out
    have ha0:a.drop k=[]:=List.drop_eq_nil_of_le (by omega)
    rw [ha0,lessB_nil,List.length_drop] at this
    show O=_
    rw [← this,decide_eq_decide]
    omega
   have i1:¬ (k:Int) < (a.length:Int):=by omega
   go_wp2_with fail
   go_ret
   exact ⟨by rw [HR.out];rfl,hbw⟩
end Go.Proofs.YthamoeekiglphaaGreatDoor
namespace Go.Proofs.YthamoeekiglphaaGreatDoor
set_option maxRecDepth 100000
open Go.RowKit
set_option linter.unusedVariables false
attribute [local go_sem] ba_size
theorem vers_next (h:List Ev) (key:List UInt8) (k:Nat):(List.range (k+1)).filterMap (verOf h key)=(List.range k).filterMap (verOf h key)++(verOf h key k).toList:=by
 rw [List.range_succ,List.filterMap_append]
 cases hl:verOf h key k with
 | none=>simp [hl]
 | some x=>simp [hl]
set_option maxHeartbeats 2000000 in
theorem rvers_any (h:List Ev) (v:Value) (w:World) (hT:IsEvs w v h) (hle:h.length≤300) (key:List UInt8) :
 Calls Tryz.prog 94 #[v,.string ⟨key.toArray⟩] w fun e w'=>InRow w ((versL h key).map Int.ofNat) e w':=by
 obtain ⟨i0,hi,hz0,hz1,hz2⟩:=info_parts int_info
 have C1:=fun (t:Int) W hW=>rend_any h v W (hT.below (w':=W) hW) t h.length (Nat.le_refl _)
 have C2:=fun (t:Int) (i:Int) W hW=>rlast_any h v W (hT.below (w':=W) hW) t key i
 obtain ⟨a,cap,rfl,h1,h2,h3,HC⟩:=hT.reads
 obtain ⟨n,hn⟩:∃ n,h.length=n:=⟨_,rfl⟩
 have HN:Hid (h.length=n):=hn
 rw [hn] at h1 h3 hle C1
 simp only [hn] at C2
 rw [hn]
 clear hT hn
 go_enter Tryz.func94,Tryz.ntmps94
 go_wp2_with fail
 go_loopw [5,6] (fun r i wr=>∃ (k c:Nat),k≤n∧c≤k∧i=.int .i64 k∧Hid (((List.range k).filterMap (verOf h key)).length=c)∧Below w.heap.size w wr∧wr.ownsRow w.heap.size 3 1 r c (recV intV (((List.range k).filterMap (verOf h key)).map Int.ofNat))) (fun _ i _=>n - (RowKit.intOf i).toNat)
 case atStart=>exact ⟨0,0,Nat.zero_le _,Nat.zero_le _,rfl,rfl,Below.refl _ _,World.ownsRow_nil _ _ _ _⟩
 case round =>
  obtain ⟨k,c,hk,hc,rfl,HL,hbw,hrow⟩:=hrel
  by_cases hlt:k < n
  ·have hk1:k < h.length:=by have:=HN.out;omega
   obtain ⟨bb,off,rfl,HQ⟩:=HC.out (by omega)
   obtain ⟨c0,c1,c2,c3⟩:=HQ.out k hk1 _ hbw
   obtain ⟨⟨x0,x1,x2,x3⟩,hx⟩:∃ x,ev h k=x:=⟨_,rfl⟩
   have HX:Hid (ev h k=(x0,x1,x2,x3)):=hx
   rw [hx] at c0 c1 c2 c3
   simp only at c0 c1 c2 c3
   clear hx
   have D1:=C1 x1
   have D2:=C2 x1 (k:Int)
   rw [last_upto h x1 key k (by omega)] at D2
   by_cases d:x0=4
   ·have e4:(x0 != 4)=false:=by rw [d];rfl
    by_cases d5:endL h x1 n=some k
    ·rw [d5] at D1
     simp only [oI] at D1
     have HW:Hid (verOf h key k=lastN h x1 key k):=by
      show _=_
      unfold verOf
      rw [HX.out,if_pos ⟨d,by rw [HN.out];exact d5⟩]
     rcases hl:lastN h x1 key k with _ | q
     ·rw [hl] at D2
      simp only [oI] at D2
      have HA:Hid (verOf h key k=none):=by show _=_;rw [HW.out,hl]
      have HV:Hid (recV intV (((List.range (k+1)).filterMap (verOf h key)).map Int.ofNat)=recV intV (((List.range k).filterMap (verOf h key)).map Int.ofNat)):=by show _=_;rw [vers_next,HA.out,Option.toList_none,List.append_nil]
      have HL':Hid (((List.range (k+1)).filterMap (verOf h key)).length=c):=by show _=_;rw [vers_next,HA.out,Option.toList_none,List.append_nil,HL.out]
      clear hl d5
      go_wp2_with fail
      refine (D1 _ hbw).mono ?_
      rintro e w1 ⟨rfl,b1⟩
      have B1:=bel_trans hbw b1
      have O1:=owns_below hrow b1
      have m1:=(HQ.out k hk1 _ B1).2.1
      rw [HX.out] at m1
      go_wp2_with fail
      refine (D2 _ B1).mono ?_
      rintro e w2 ⟨rfl,b2⟩
      have B2:=bel_trans B1 b2
      have O2:=owns_below O1 b2
      go_wp2_with fail
      refine ⟨?relA,?meaA⟩
      case relA=>exact ⟨k+1,c,by omega,by omega,by first | go_num | simp,HL',B2,by rw [HV.out];exact O2⟩
      case meaA=>simp [RowKit.intOf];omega
     ·rw [hl] at D2
      simp only [oI] at D2
      have jq:(0:Int)≤(q:Int):=by omega
      have HA:Hid (verOf h key k=some q):=by show _=_;rw [HW.out,hl]
      have HV:Hid (recV intV (((List.range (k+1)).filterMap (verOf h key)).map Int.ofNat)=recV intV (((List.range k).filterMap (verOf h key)).map Int.ofNat)++[.int .i64 (q:Int)]):=by
       show _=_
       rw [vers_next,HA.out,List.map_append,recV_append]
       rfl
      have HL':Hid (((List.range (k+1)).filterMap (verOf h key)).length=c+1):=by show _=_;rw [vers_next,HA.out,List.length_append,HL.out];rfl
      obtain ⟨DR,hDR⟩:∃ d,recV intV (((List.range k).filterMap (verOf h key)).map Int.ofNat)=d:=⟨_,rfl⟩
      rw [hDR] at hrow HV
      clear hDR hl d5
      go_wp2_with fail
      refine (D1 _ hbw).mono ?_
      rintro e w1 ⟨rfl,b1⟩
      have B1:=bel_trans hbw b1
      have O1:=owns_below hrow b1
      have m1:=(HQ.out k hk1 _ B1).2.1
      rw [HX.out] at m1
      go_wp2_with fail
      refine (D2 _ B1).mono ?_
      rintro e w2 ⟨rfl,b2⟩
      have B2:=bel_trans B1 b2
      have O2:=owns_below O1 b2
      have sz:=B2.size
      go_wp2_with (at_builtin;refine wpList_append_own _ rfl _ _ 22 rfl w.heap.size 3 i0 (.int .i64 0) 1 8 Tryz.underlying22 hi hz0 hz1 hz2 rfl (by decide) _ _ _ rfl (O2.alloc _) ⟨w2.heap.size,0,none⟩ 1 1 [.int .i64 (q:Int)] rfl rfl ?d1 ?d2 ?d3 ?d4 ?d5 ?_)
      try
       case d1 =>
        intro j u hj
        match j,hj with
        | 0,hj=>simp at hj;subst hj;first | (simp [Addr.add];done) | exact cell_new7 (by simp) rfl
      case d2=>first | (intro u hu;simp at hu;subst hu;rfl) | rfl
      case d3=>unfold maxLen;omega
      case d4=>omega
      case d5=>simp;omega
      intro v' w3 own3 g3 _
      have B3:Below w.heap.size w w3:=(B2.alloc B2.size _).grown g3 (by have:=B2.size;simp at this ⊢;omega) (fun j hj=>(hrow.lt j hj).1)
      go_wp2_with fail
      refine ⟨?relB,?meaB⟩
      case relB=>exact ⟨k+1,c+1,by omega,by omega,by first | go_num | simp,HL',B3,by rw [HV.out];exact own3⟩
      case meaB=>simp [RowKit.intOf];omega
    ·have hj:oI (endL h x1 n)≠(k:Int):=by
      intro hh
      rcases he:endL h x1 n with _ | e
      ·rw [he] at hh;simp only [oI] at hh;omega
      ·rw [he] at hh;simp only [oI] at hh;exact d5 (by rw [he];congr 1;omega)
     obtain ⟨z,hz⟩:∃ z,oI (endL h x1 n)=z:=⟨_,rfl⟩
     rw [hz] at D1 hj
     have ez:(z != (k:Int))=true:=bne_iff_ne.2 hj
     have HA:Hid (verOf h key k=none):=by show _=_;unfold verOf;rw [HX.out,if_neg (fun hh=>d5 (by have:=hh.2;rw [HN.out] at this;exact this))]
     have HV:Hid (recV intV (((List.range (k+1)).filterMap (verOf h key)).map Int.ofNat)=recV intV (((List.range k).filterMap (verOf h key)).map Int.ofNat)):=by show _=_;rw [vers_next,HA.out,Option.toList_none,List.append_nil]
     have HL':Hid (((List.range (k+1)).filterMap (verOf h key)).length=c):=by show _=_;rw [vers_next,HA.out,Option.toList_none,List.append_nil,HL.out]
     clear hz d5 hj
     go_wp2_with fail
     refine (D1 _ hbw).mono ?_
     rintro e w1 ⟨rfl,b1⟩
     have B1:=bel_trans hbw b1
     have O1:=owns_below hrow b1
     go_wp2_with fail
     refine ⟨?relC,?meaC⟩
     case relC=>exact ⟨k+1,c,by omega,by omega,by first | go_num | simp,HL',B1,by rw [HV.out];exact O1⟩
     case meaC=>simp [RowKit.intOf];omega
   ·have e4:(x0 != 4)=true:=bne_iff_ne.2 d
    have HA:Hid (verOf h key k=none):=by show _=_;unfold verOf;rw [HX.out,if_neg (fun hh=>d hh.1)]
    have HV:Hid (recV intV (((List.range (k+1)).filterMap (verOf h key)).map Int.ofNat)=recV intV (((List.range k).filterMap (verOf h key)).map Int.ofNat)):=by show _=_;rw [vers_next,HA.out,Option.toList_none,List.append_nil]
    have HL':Hid (((List.range (k+1)).filterMap (verOf h key)).length=c):=by show _=_;rw [vers_next,HA.out,Option.toList_none,List.append_nil,HL.out]
    go_wp2_with fail
    refine ⟨?relD,?meaD⟩
    case relD=>exact ⟨k+1,c,by omega,by omega,by first | go_num | simp,HL',hbw,by rw [HV.out];exact hrow⟩
    case meaD=>simp [RowKit.intOf];omega
  ·obtain rfl:k=n:=by omega
   have HE:Hid (versL h key=(List.range k).filterMap (verOf h key)):=by show versL h key=_;unfold versL;rw [HN.out]
   go_wp2_with fail
   go_ret
   refine ⟨_,rfl,hbw,?_⟩
   rw [HE.out,List.length_map,HL.out]
   exact hrow
theorem own_empty8 (w:World) (e k:Nat):(w.alloc (.cells #[] e)).ownsRow w.heap.size e k (.slice (some ⟨w.heap.size,0,none⟩) 0 0) 0 [] :=
 ⟨by simp,.inr ⟨w.heap.size,0,#[],rfl,Nat.le_refl _,SBox.new w e #[],Nat.le_refl _,by unfold maxLen;omega,by simp,by simp⟩⟩
theorem rec_src8 {α:Type} {sz:Nat} {enc:α→List Value} (hz:∀ x,(enc x).length=sz) (hs:0 < sz) {W:World} {b off:Nat} {L:List α} (h:∀ i (h:i < L.length) j u,(enc L[i])[j]?=some u→W.cell? ⟨b,off+i*sz+j,none⟩=some u):∀ j u,(recV enc L)[j]?=some u→W.cell? ((⟨b,off,none⟩:Addr).add j)=some u:=by
 intro j u hu
 have hj:j < L.length*sz:=by
  have:=(List.getElem?_eq_some_iff.1 hu).1
  rwa [recV_length hz] at this
 have hi:j / sz < L.length:=(Nat.div_lt_iff_lt_mul hs).2 hj
 have hm:j % sz < sz:=Nat.mod_lt _ hs
 have e:j / sz*sz+j % sz=j:=by rw [Nat.mul_comm];exact Nat.div_add_mod j sz
 have g:=recV_get hz L (j / sz) hi (j % sz) hm
 rw [e,hu] at g
 have:=h (j / sz) hi (j % sz) u g.symm
 rw [Nat.add_assoc,e] at this
 have ea:(⟨b,off,none⟩:Addr).add j=⟨b,off+j,none⟩:=by simp [Addr.add]
 rw [ea]
 exact this
theorem IsRec.src {α:Type} {sz:Nat} {enc:α→List Value} (hz:∀ x,(enc x).length=sz) (hs:0 < sz) {w W:World} {ad:Addr} {n c:Nat} {L:List α} (h:IsRec sz enc w (.slice (some ad) n c) L) (hb:Below w.heap.size w W):∀ j u,(recV enc L)[j]?=some u→W.cell? (ad.add j)=some u:=by
 by_cases h0:L=[]
 ·subst h0;intro j u hu;simp [recV] at hu
 ·obtain ⟨a,n',c',hv,h1,_,_,_,h6⟩:=h
  obtain ⟨rfl,rfl,rfl⟩:a=some ad∧n'=n∧c'=c:=by simpa [eq_comm] using hv
  rcases h6 with h6 | ⟨b,off,hb',hlt,hc⟩
  ·exact absurd (List.length_eq_zero_iff.1 (by omega)) h0
  ·obtain rfl:ad=⟨b,off,none⟩:=by simpa using hb'
   refine rec_src8 hz hs (fun i hi j u hu=>?_)
   exact (hb.cell (p:=⟨b,off+i*sz+j,none⟩) hlt).trans (hc i hi j u hu)
theorem own_slice9 {W:World} {B e k n:Nat} {v:Value} {xs:List Value} (h:W.ownsRow B e k v n xs):∃ g c,v=.slice g n c∧n≤c:=by
 rcases h.2 with ⟨rfl,rfl⟩ | ⟨g,cap,cur,rfl,_,_,hc,_⟩
 ·exact ⟨_,_,rfl,Nat.le_refl _⟩
 ·exact ⟨_,_,rfl,hc⟩
set_option maxHeartbeats 1000000 in
theorem rcomm_any (h:List Ev) (v:Value) (w:World) (hT:IsEvs w v h) (t:Int) :
 Calls Tryz.prog 67 #[v,.int .i64 t] w fun e w'=>e=.returned (.int .i64 (oI (commL h t)))∧Below w.heap.size w w':=by
 have D:=rend_any h v w hT t h.length (Nat.le_refl _)
 obtain ⟨a,cap,rfl,h1,h2,h3,HC⟩:=hT.reads
 obtain ⟨n,hn⟩:∃ n,h.length=n:=⟨_,rfl⟩
 have HN:Hid (h.length=n):=hn
 rcases he:endL h t h.length with _ | e
 ·rw [comm_none h t he]
  rw [he] at D
  simp only [oI] at D ⊢
  rw [hn] at D h1 h3 ⊢
  clear hT hn he
  go_enter Tryz.func67,Tryz.ntmps67
  go_wp2_with fail
  refine D.mono ?_
  rintro e w1 ⟨rfl,b1⟩
  go_wp2_with fail
  go_ret
  exact ⟨rfl,b1⟩
 ·have hel:e < h.length:=((fi_some _ _ _).1 he).1
  have HE:Hid (e < h.length):=hel
  obtain ⟨bb,off,rfl,HQ⟩:=HC.out (by omega)
  have j1:¬ (e:Int) < 0:=by omega
  rw [he] at D
  simp only [oI] at D
  by_cases h4:(ev h e).1=4
  ·rw [comm_yes h t e he h4]
   have HX:Hid ((ev h e).1=4):=h4
   simp only [oI]
   rw [hn] at D h1 h3 hel ⊢
   clear hT hn he h4 HC
   go_enter Tryz.func67,Tryz.ntmps67
   go_wp2_with fail
   refine D.mono ?_
   rintro e' w1 ⟨rfl,b1⟩
   obtain ⟨c0,_,_,_⟩:=HQ.out e HE.out _ b1
   rw [HX.out] at c0
   go_wp2_with fail
   go_ret
   exact ⟨rfl,b1⟩
  ·rw [comm_no h t e he h4]
   obtain ⟨x0,hx⟩:∃ x0,(ev h e).1=x0:=⟨_,rfl⟩
   have HX:Hid ((ev h e).1=x0):=hx
   have e4:(x0 != 4)=true:=by rw [← hx];simpa using h4
   simp only [oI]
   rw [hn] at D h1 h3 hel ⊢
   clear hT hn he h4 HC hx
   go_enter Tryz.func67,Tryz.ntmps67
   go_wp2_with fail
   refine D.mono ?_
   rintro e' w1 ⟨rfl,b1⟩
   obtain ⟨c0,_,_,_⟩:=HQ.out e HE.out _ b1
   rw [HX.out] at c0
   go_wp2_with fail
   go_ret
   exact ⟨rfl,b1⟩
theorem endL_skip (h:List Ev) (t:Int) (k:Nat) (he:endL h t k=none) (hn:¬ endB (ev h k) t):endL h t (k+1)=none:=by
 rw [endL_none] at he ⊢
 intro j hj
 rcases Nat.lt_or_ge j k with h' | h'
 ·exact he j h'
 ·obtain rfl:j=k:=by omega
  exact hn
theorem fstL_old (h:List Ev) (t:Int) (k f:Nat) (he:fstL h t k=some f):fstL h t (k+1)=some f:=by
 rw [fstL_some] at he ⊢
 exact ⟨by omega,he.2⟩
theorem fstL_new (h:List Ev) (t:Int) (k:Nat) (he:fstL h t k=none) (hx:(ev h k).2.1=t):fstL h t (k+1)=some k:=by
 rw [fstL_none] at he
 rw [fstL_some]
 exact ⟨by omega,hx,he⟩
theorem fstL_skip (h:List Ev) (t:Int) (k:Nat) (he:fstL h t k=none) (hx:(ev h k).2.1≠t):fstL h t (k+1)=none:=by
 rw [fstL_none] at he ⊢
 intro j hj
 rcases Nat.lt_or_ge j k with h' | h'
 ·exact he j h'
 ·obtain rfl:j=k:=by omega
  exact hx
theorem recN_snoc (L:List Int) (x:Int):recV intV (L++[x])=recV intV L++[.int .i64 x]:=by rw [recV_append];rfl
set_option maxHeartbeats 4000000 in
theorem rnodes_any (h:List Ev) (v:Value) (w:World) (hT:IsEvs w v h) :
 Calls Tryz.prog 97 #[v] w fun e w'=>InRow w (nodeL h) e w':=by
 obtain ⟨i0,hi,hz0,hz1,hz2⟩:=info_parts int_info
 have C1:=fun (t:Int) W hW=>rcomm_any h v W (hT.below (w':=W) hW) t
 obtain ⟨a,cap,rfl,h1,h2,h3,HC⟩:=hT.reads
 obtain ⟨n,hn⟩:∃ n,h.length=n:=⟨_,rfl⟩
 have HN:Hid (h.length=n):=hn
 simp only [hn] at C1
 rw [hn] at h1 h3 ⊢
 clear hT hn
 go_enter Tryz.func97,Tryz.ntmps97
 go_wp2_with fail
 go_loopw [3,4] (fun r i wr=>∃ (k c:Nat),k≤301∧c≤k∧i=.int .i64 ((k:Int) - 1)∧Hid ((ndL h k).length=c)∧Below w.heap.size w wr∧wr.ownsRow w.heap.size 3 1 r c (recV intV (ndL h k))) (fun _ i _=>(301 - (RowKit.intOf i+1)).toNat)
 case atStart=>exact ⟨0,0,by omega,by omega,rfl,rfl,Below.refl _ _,World.ownsRow_nil _ _ _ _⟩
 case round =>
  obtain ⟨k,c,hk,hc,rfl,HL,hbw,hrow⟩:=hrel
  obtain ⟨wo,rfl⟩:∃ x,x=wr:=⟨_,rfl⟩
  by_cases hlt:k < 301
  ·have j0:(k:Int) - 1 < 300:=by omega
   obtain ⟨t,ht⟩:∃ t,(k:Int) - 1=t:=⟨_,rfl⟩
   have HT:Hid ((k:Int) - 1=t):=ht
   rw [ht] at j0 ⊢
   clear ht
   have ht1:-1≤t∧t < 300:=by have:=HT.out;omega
   go_wp2_with fail
   go_loopw [5,6] (fun hs i wq=>∃ q:Nat,q≤n∧i=.int .i64 q∧hs=.bool (fstL h t q).isSome∧Below wo.heap.size wo wq) (fun _ i _=>n - (RowKit.intOf i).toNat)
   case atStart=>exact ⟨0,Nat.zero_le _,rfl,rfl,Below.refl _ _⟩
   case round =>
    obtain ⟨q,hq,rfl,rfl,hbq⟩:=hrel
    by_cases hqn:q < n
    ·have hq1:q < h.length:=by have:=HN.out;omega
     obtain ⟨bb,off,rfl,HQ⟩:=HC.out (by have:=HN.out;omega)
     have c1:=(HQ.out q hq1 _ (bel_trans hbw hbq)).2.1
     obtain ⟨x1,hx⟩:∃ x,(ev h q).2.1=x:=⟨_,rfl⟩
     have HX:Hid ((ev h q).2.1=x1):=hx
     rw [hx] at c1
     clear hx
     cases hf:fstL h t q with
     | some f =>
       have HF:Hid (fstL h t (q+1)=some f):=fstL_old h t q f hf
       clear hf
       simp only [Option.isSome_some]
       go_wp2_with fail
       refine ⟨⟨q+1,by omega,by first | go_num | simp,by rw [HF.out];rfl,hbq⟩,by simp [RowKit.intOf];omega⟩
     | none =>
       simp only [Option.isSome_none]
       by_cases d:x1=t
       ·have e1:(x1==t)=true:=by rw [d];exact beq_self_eq_true _
        have HF:Hid (fstL h t (q+1)=some q):=fstL_new h t q hf (by rw [HX.out];exact d)
        clear hf d
        go_wp2_with fail
        refine ⟨⟨q+1,by omega,by first | go_num | simp,by rw [HF.out];rfl,hbq⟩,by simp [RowKit.intOf];omega⟩
       ·have e1:(x1==t)=false:=beq_eq_false_iff_ne.2 d
        have HF:Hid (fstL h t (q+1)=none):=fstL_skip h t q hf (by rw [HX.out];exact d)
        clear hf d
        go_wp2_with fail
        refine ⟨⟨q+1,by omega,by first | go_num | simp,by rw [HF.out];rfl,hbq⟩,by simp [RowKit.intOf];omega⟩
    ·obtain rfl:q=n:=by omega
     have B1:=bel_trans hbw hbq
     have hrowq:=owns_below hrow hbq
     have HK:Hid (ndOf h k=if commL h t=none then none else some t):=by show _=_;unfold ndOf;rw [HT.out]
     cases hf:fstL h t q with
     | none =>
       have HE:Hid (ndL h (k+1)=ndL h k):=by
        show _=_
        rw [nd_next,HK.out,if_pos (comm_has h t (by rw [HN.out];exact hf))]
        simp
       clear hf
       simp only [Option.isSome_none]
       go_wp2_with fail
       refine ⟨⟨k+1,c,by omega,by omega,by have:=HT.out;simp;omega,by rw [HE.out];exact HL.out,B1,by rw [HE.out];exact hrowq⟩,by have:=HT.out;simp [RowKit.intOf];omega⟩
     | some f =>
       simp only [Option.isSome_some]
       go_wp2_with fail
       refine (C1 t _ B1).mono ?_
       rintro e w1 ⟨rfl,b1⟩
       have B2:=bel_trans B1 b1
       have hrow1:=owns_below hrowq b1
       clear hf
       rcases hcm:commL h t with _ | e
       ·have HE:Hid (ndL h (k+1)=ndL h k):=by
         show _=_
         rw [nd_next,HK.out,if_pos hcm]
         simp
        simp only [oI]
        clear hcm
        go_wp2_with fail
        refine ⟨⟨k+1,c,by omega,by omega,by have:=HT.out;simp;omega,by rw [HE.out];exact HL.out,B2,by rw [HE.out];exact hrow1⟩,by have:=HT.out;simp [RowKit.intOf];omega⟩
       ·have HE:Hid (ndL h (k+1)=ndL h k++[t]):=by
         show _=_
         rw [nd_next,HK.out,if_neg (by rw [hcm];simp)]
         rfl
        simp only [oI]
        clear hcm
        have je:(0:Int)≤(e:Int):=by omega
        have hsz1:=B2.size
        go_wp2_with (at_builtin;refine wpList_append_own _ rfl _ _ 22 rfl w.heap.size 3 i0 (.int .i64 0) 1 8 Tryz.underlying22 hi hz0 hz1 hz2 rfl (by decide) _ _ _ rfl (hrow1.alloc _) ⟨w1.heap.size,0,none⟩ 1 1 [.int .i64 t] rfl rfl ?a1 ?a2 ?a3 ?a4 ?a5 ?_)
        case a1=>intro j u hj;match j,hj with
         | 0,hj=>simp at hj;subst hj;simp [Addr.add]
        case a2=>intro u hu;simp at hu;subst hu;rfl
        case a3=>unfold maxLen;omega
        case a4=>omega
        case a5=>simp;omega
        intro v' w2 hown2 hg2 _
        have B3:Below w.heap.size w w2:=(B2.alloc B2.size _).grown hg2 (by simp;omega) (fun j hj=>(hrow1.lt j hj).1)
        go_wp2_with fail
        refine ⟨⟨k+1,c+1,by omega,by omega,by have:=HT.out;simp;omega,by rw [HE.out,List.length_append,HL.out];rfl,B3,by rw [HE.out,recN_snoc];exact hown2⟩,by have:=HT.out;simp [RowKit.intOf];omega⟩
  ·obtain rfl:k=301:=by omega
   go_wp2_with fail
   go_ret
   refine ⟨_,rfl,hbw,?_⟩
   show World.ownsRow _ _ _ _ _ (ndL h 301).length (recV intV (ndL h 301))
   rw [HL.out]
   exact hrow
set_option linter.unusedSimpArgs false
set_option maxHeartbeats 4000000 in
theorem rways_any (vl:Value) (l:List Stp) (to:Int) (many:Nat) (w:World) (hT:IsSts w vl l) (hl9:l.length≤1000000000) (hm9:many≤1000000000) :
 Calls Tryz.prog 124 #[vl,.int .i64 to,.int .i64 (many:Int)] w fun e w'=>WaysRes w l to many e w':=by
 obtain ⟨i0,hi,hz0,hz1,hz2⟩:=info_parts int_info
 obtain ⟨j0,ji,jz0,jz1,jz2⟩:=info_parts sl_info
 obtain ⟨al,cl,rfl,p1,p2,p3,HL⟩:=hT.reads
 obtain ⟨m,hm⟩:∃ m,l.length=m:=⟨_,rfl⟩
 have HM:Hid (l.length=m):=hm
 rw [hm] at p1 p3 hl9 ⊢
 clear hT hm
 have O1:=own_lit w 3 1 1 [.int .i64 to] rfl (by omega)
 have O2:=own_lit (w.alloc (.cells #[.int .i64 to] 3)) 22 1 1 [.slice (some ⟨w.heap.size,0,none⟩) 1 1] rfl (by omega)
 rw [World.size_alloc] at O2
 have O3:=O1.alloc (.cells #[.slice (some ⟨w.heap.size,0,none⟩) 1 1] 22)
 have B0:Below w.heap.size w ((w.alloc (.cells #[.int .i64 to] 3)).alloc (.cells #[.slice (some ⟨w.heap.size,0,none⟩) 1 1] 22)):=((Below.refl w.heap.size w).alloc (Nat.le_refl _) _).alloc (by simp) _
 have HW0:Hid (WaysOk w ((w.alloc (.cells #[.int .i64 to] 3)).alloc (.cells #[.slice (some ⟨w.heap.size,0,none⟩) 1 1] 22)) l to [.slice (some ⟨w.heap.size,0,none⟩) 1 1]):=fun n u hu=>by
  rcases Nat.eq_zero_or_pos n with rfl | h0
  ·simp only [List.getElem?_cons_zero,Option.some.injEq] at hu
   subst hu
   exact ⟨[to],O3,by simp,fun x=>by rw [wayB];simp⟩
  ·rw [List.getElem?_eq_none (by simp;omega)] at hu
   cases hu
 obtain ⟨wf,hwf⟩:∃ wf,(w.alloc (.cells #[.int .i64 to] 3)).alloc (.cells #[.slice (some ⟨w.heap.size,0,none⟩) 1 1] 22)=wf:=⟨_,rfl⟩
 go_enter Tryz.func124,Tryz.ntmps124
 go_wp2_with fail
 have O4:=owns_low O2 (show w.heap.size≤w.heap.size+1 by omega)
 rw [hwf] at HW0 B0
 have O5:wf.ownsRow w.heap.size 22 1 (.slice (some ⟨w.heap.size+1,0,none⟩) 1 1) 1 [.slice (some ⟨w.heap.size,0,none⟩) 1 1]:=by rw [← hwf];exact O4
 clear hwf O1 O2 O3 O4
 go_loopw [7,8] (fun ov nv wr=>∃ (n:Nat) (Vs:List Value),n≤many∧nv=.int .i64 n∧Hid (Vs.length=n+1)∧Hid (WaysOk w wr l to Vs)∧Below w.heap.size w wr∧wr.ownsRow w.heap.size 22 1 ov (n+1) Vs) (fun _ nv _=>many - (RowKit.intOf nv).toNat)
 case atStart=>exact ⟨0,[.slice (some ⟨w.heap.size,0,none⟩) 1 1],Nat.zero_le _,rfl,(show _=_ from rfl),HW0,B0,O5⟩
 case round =>
  obtain ⟨n,Vs,hn,rfl,HVn,HW,hbw,hrow⟩:=hrel
  obtain ⟨wo,rfl⟩:∃ wo,wo=wr:=⟨_,rfl⟩
  by_cases hlt:n < many
  ·have jn:(n:Int) < (many:Int):=by omega
   obtain ⟨g,cp,hu7,hcp,hcp2⟩:∃ g c,u7=.slice (some ⟨g,0,none⟩) (n+1) c∧n+1≤c∧c≤9223372036854775807:=by
    rcases hrow.2 with ⟨_,h⟩ | ⟨g,cap,cur,rfl,_,_,h2,h3,_⟩
    ·omega
    ·exact ⟨g,cap,rfl,h2,by unfold maxLen at h3;omega⟩
   obtain ⟨nn,hnn⟩:∃ nn,n+1=nn:=⟨_,rfl⟩
   have HNN:Hid (n+1=nn):=hnn
   have hnlt:n < nn:=by omega
   have hnnb:nn≤1000000001:=by omega
   have jn2:(n:Int) < (nn:Int):=by omega
   rw [hnn] at hu7 hcp hrow
   subst hu7
   obtain ⟨un,hun⟩:∃ u,Vs[n]?=some u:=⟨_,List.getElem?_eq_getElem (by have:=HVn.out;omega)⟩
   obtain ⟨N,hN1,hN2,hN3⟩:=HW.out n un hun
   have HN3:=Lib.hid hN3
   have TN:IsInts wo un N:=IsRec.own intV_len (by omega) hN1 (by have:=HM.out;omega)
   have CN:=fun (x:Int) W (hW:Below wo.heap.size wo W)=>rhas_any un N x W (TN.below hW)
   have Hun:Hid (∀ V,Below wo.heap.size wo V→V.cell? ⟨g,n,none⟩=some un):=fun V hV=>by
    have c:=(owns_below hrow hV).cellAt n (by omega)
    rw [c];exact hun
   clear hN1 hN3 TN hnn
   go_wp2_with fail
   go_loopw [9,10] (fun xv zv wq=>∃ (z:Nat) (X:List Int),z≤m∧zv=.int .i64 z∧X.length≤z∧Hid (∀ x,x∈X↔nextP l to n z x)∧Below wo.heap.size wo wq∧wq.ownsRow wo.heap.size 3 1 xv X.length (recV intV X)) (fun _ zv _=>m - (RowKit.intOf zv).toNat)
   case atStart=>exact ⟨0,[],Nat.zero_le _,rfl,by simp,(fun x=>⟨fun h=>(by cases h),fun ⟨j,_,h,_⟩=>absurd h (by omega)⟩),Below.refl _ _,World.ownsRow_nil _ _ _ _⟩
   case round =>
    obtain ⟨z,X,hz,rfl,hX,HX,hbq,xrow⟩:=hrel
    obtain ⟨wq,rfl⟩:∃ wq,wq=wr:=⟨_,rfl⟩
    by_cases hlz:z < m
    ·have hzl:z < l.length:=by have:=HM.out;omega
     have jz:(z:Int) < (m:Int):=by omega
     obtain ⟨bs,os,rfl,uu,_,C1⟩:=HL.out z hzl
     obtain ⟨⟨fr,t,E⟩,hy⟩:∃ y,l[z]=y:=⟨_,rfl⟩
     have HNo:Hid (wayB l to n t=false→∀ x,nextP l to n (z+1) x↔nextP l to n z x):=fun h x=>nextP_no l to n z x hzl (by rw [hy];exact h)
     have HYe:Hid (wayB l to n t=true→∀ x,nextP l to n (z+1) x↔x=fr∨nextP l to n z x):=fun h x=>by have e:=nextP_yes l to n z x hzl (by rw [hy];exact h);rw [hy] at e;exact e
     rw [hy] at C1
     simp only at C1
     have HC1:=Lib.hid C1
     clear hy C1
     have TX:IsInts wq u9 X:=IsRec.own intV_len (by omega) xrow (by omega)
     have CX:=fun W (hW:Below wq.heap.size wq W)=>rhas_any u9 X fr W (TX.below hW)
     have CO:=fun W (hW:Below wo.heap.size wo W)=>CN t W hW
     have HOn:Hid (decide (t∈N)=wayB l to n t):=by
      show _=_
      cases hw:wayB l to n t with
      | true=>exact decide_eq_true ((HN3.out t).2 hw)
      | false=>exact decide_eq_false (fun h=>by rw [(HN3.out t).1 h] at hw;cases hw)
     rw [HOn.out] at CO
     obtain ⟨on,hon⟩:∃ b,wayB l to n t=b:=⟨_,rfl⟩
     rw [hon] at CO HNo HYe
     clear hon HOn
     obtain ⟨x0,x1,_⟩:=HC1.out _ (bel_trans hbw hbq)
     have xu:=Hun.out _ hbq
     have S0:(fun V=>Below wq.heap.size wq V∧V.cell? ⟨g,n,none⟩=some un∧V.cell? ⟨bs,os+z*3+1,none⟩=some (.int .i64 t)) wq.drew:=⟨(Below.refl _ _).drew,xu,x1⟩
     have keepS:∀ V V':World,(fun V=>Below wq.heap.size wq V∧V.cell? ⟨g,n,none⟩=some un∧V.cell? ⟨bs,os+z*3+1,none⟩=some (.int .i64 t)) V→Below V.heap.size V V'→(fun V=>Below wq.heap.size wq V∧V.cell? ⟨g,n,none⟩=some un∧V.cell? ⟨bs,os+z*3+1,none⟩=some (.int .i64 t)) V':=fun V V' ⟨a,b,c⟩ d=>⟨bel_trans a d,cell_bel d b,cell_bel d c⟩
     go_wp2_with fail
     go_region_held3 (fun V=>Below wq.heap.size wq V∧V.cell? ⟨g,n,none⟩=some un∧V.cell? ⟨bs,os+z*3+1,none⟩=some (.int .i64 t)) (first | exact S0 | exact keepS _ _ (by assumption) (by assumption)) (first | (go_at_call 121;refine (CO _ (bel_trans hbq (And.left (by assumption)))).mono ?_;rintro e' w' ⟨rfl,b8⟩))
     rename_i hHeld8
     have s8:=hHeld8.1
     clear S0 keepS hHeld8 x0 x1 xu
     obtain ⟨y0,y1,_⟩:=HC1.out _ (bel_trans hbw (bel_trans hbq s8))
     go_wp2_with fail
     refine (CX _ s8).mono ?_
     rintro e w2 ⟨rfl,b2⟩
     have s9:=bel_trans s8 b2
     have B9:=bel_trans hbq s9
     have xrow9:=owns_below xrow s9
     obtain ⟨q0,q1,_⟩:=HC1.out _ (bel_trans hbw B9)
     cases on with
     | false =>
       have HX2:Hid (∀ x,x∈X↔nextP l to n (z+1) x):=fun x=>(HX.out x).trans (HNo.out rfl x).symm
       obtain ⟨inb,hinb⟩:∃ b,decide (fr∈X)=b:=⟨_,rfl⟩
       simp only [hinb]
       clear hinb
       go_wp2_with fail
       refine ⟨⟨z+1,X,by omega,by first | go_num | simp,by omega,HX2,B9,xrow9⟩,by simp [RowKit.intOf];omega⟩
     | true =>
       by_cases hin:fr∈X
       ·have HX2:Hid (∀ x,x∈X↔nextP l to n (z+1) x):=fun x=>by
         rw [HYe.out rfl x,← HX.out x]
         exact ⟨.inr,fun h=>h.elim (fun e=>by rw [e];exact hin) id⟩
        simp only [decide_eq_true hin]
        clear hin
        go_wp2_with fail
        refine ⟨⟨z+1,X,by omega,by first | go_num | simp,by omega,HX2,B9,xrow9⟩,by simp [RowKit.intOf];omega⟩
       ·have HX2:Hid (∀ x,x∈X++[fr]↔nextP l to n (z+1) x):=fun x=>by
         rw [HYe.out rfl x,← HX.out x,List.mem_append,List.mem_singleton]
         exact Or.comm
        simp only [decide_eq_false hin]
        clear hin
        have sz:=B9.size
        go_wp2_with (at_builtin;refine wpList_append_own _ rfl _ _ 22 rfl wo.heap.size 3 i0 (.int .i64 0) 1 8 Tryz.underlying22 hi hz0 hz1 hz2 rfl (by decide) _ _ _ rfl (xrow9.alloc _) ⟨w2.heap.size,0,none⟩ 1 1 [.int .i64 fr] rfl rfl ?d1 ?d2 ?d3 ?d4 ?d5 ?_)
        try
         case d1=>intro j u hj;match j,hj with
          | 0,hj=>simp at hj;subst hj;first | (simp [Addr.add];done) | exact cell_new7 (by simp) rfl
        try
         case d2=>intro u hu;simp at hu;subst hu;rfl
        try
         case d2=>exact rfl
        try
         case d3=>unfold maxLen;omega
        try
         case d4=>omega
        try
         case d5=>first | omega | (simp;done) | (simp;omega)
        intro v3 w3 own3 g3 _
        have B3:Below wo.heap.size wo w3:=(B9.alloc sz _).grown g3 (by simp;omega) (fun j hj=>(xrow9.lt j hj).1)
        go_wp2_with fail
        refine ⟨⟨z+1,X++[fr],by omega,by first | go_num | simp,by simp;omega,HX2,B3,by rw [List.length_append,recV_append];exact own3⟩,by simp [RowKit.intOf];omega⟩
    ·obtain rfl:z=m:=by omega
     have jz:¬ (z:Int) < (z:Int):=by omega
     have HX3:Hid (∀ x,x∈X↔wayB l to (n+1) x=true):=fun x=>by rw [HX.out x,← HM.out];exact nextP_all l to n x
     obtain ⟨ax,cx,hu9⟩:∃ a c,u9=.slice a X.length c:=by
      rcases xrow.2 with ⟨rfl,h⟩ | ⟨g,cap,cur,rfl,_⟩
      ·exact ⟨_,_,by rw [h]⟩
      ·exact ⟨_,_,rfl⟩
     subst hu9
     have BQ:=bel_trans hbw hbq
     have sz:=BQ.size
     have orow:=owns_below hrow hbq
     have xlow:=owns_low xrow hbw.size
     have HW2:=HW.out.below hbq
     go_wp2_with (at_builtin;refine wpList_append_own _ rfl _ _ 170 rfl w.heap.size 22 j0 (.slice none 0 0) 1 24 Tryz.underlying170 ji jz0 jz1 jz2 rfl (by decide) _ _ _ rfl (orow.alloc _) ⟨wq.heap.size,0,none⟩ 1 1 [.slice ax X.length cx] rfl rfl ?k1 ?k2 ?k3 ?k4 ?k5 ?_)
     try
      case k1=>intro j u hj;match j,hj with
       | 0,hj=>simp at hj;subst hj;first | (simp [Addr.add];done) | exact cell_new7 (by simp) rfl
     try
      case k2 =>
       intro u hu
       simp at hu
       subst hu
       rfl
     try
      case k2=>exact rfl
     try
      case k3=>unfold maxLen;omega
     try
      case k4=>omega
     try
      case k5=>first | omega | (simp;done) | (simp;omega)
     intro v3 w3 own3 g3 _
     have B3:Below w.heap.size w w3:=(BQ.alloc sz _).grown g3 (by simp;omega) (fun j hj=>(orow.lt j hj).1)
     have bA:=(Below.refl wq.heap.size wq).alloc (Nat.le_refl _) (.cells #[.slice ax X.length cx] 22)
     have HW3:=(HW2.below bA).grown (orow.alloc (.cells #[.slice ax X.length cx] 22)) (by decide) g3
     have X3:=apart11_kept (xlow.alloc (.cells #[.slice ax X.length cx] 22)) g3 (apart_types orow xlow (by decide))
     have HW4:Hid (WaysOk w w3 l to (Vs++[.slice ax X.length cx])):=HW3.push (.slice ax X.length cx) X X3 (by have:=HM.out;omega) (fun x=>by rw [HVn.out];exact HX3.out x)
     go_wp2_with fail
     refine ⟨⟨n+1,Vs++[.slice ax X.length cx],by omega,by first | go_num | simp,by show _=_;rw [List.length_append,HVn.out];rfl,HW4,B3,by rw [HNN.out];exact own3⟩,by simp [RowKit.intOf];omega⟩
  ·obtain rfl:n=many:=by omega
   have jn:¬ (n:Int) < (n:Int):=by omega
   go_wp2_with fail
   go_ret
   exact ⟨_,Vs,rfl,hbw,HVn.out,hrow,HW.out⟩
end Go.Proofs.YthamoeekiglphaaGreatDoor
namespace Go.Proofs.YthamoeekiglphaaGreatDoor
set_option maxRecDepth 100000
open Go.RowKit
set_option linter.unusedVariables false
def iV (K:List Int):List Value:=K.map (Value.int .i64)
theorem iV_rec (K:List Int):recV intV K=iV K:=by
 unfold recV iV
 induction K with
 | nil=>rfl
 | cons x r ih=>rw [List.flatMap_cons,ih];rfl
theorem iV_length (K:List Int):(iV K).length=K.length:=by unfold iV;rw [List.length_map]
theorem iV_app (K M:List Int):iV (K++M)=iV K++iV M:=by unfold iV;rw [List.map_append]
theorem iV_at (K:List Int) (i:Nat) (h:i < K.length):(iV K)[i]?=some (.int .i64 K[i]):=by unfold iV;simp [h]
theorem isrc_take {W:World} {B g cp:Nat} {K:List Int} (h:W.ownsRow B 3 1 (.slice (some ⟨g,0,none⟩) K.length cp) K.length (iV K)) (q:Nat):∀ j u,(iV (K.take q))[j]?=some u→W.cell? ((⟨g,0,none⟩:Addr).add j)=some u:=by
 intro j u hu
 have hj:=(List.getElem?_eq_some_iff.1 hu).1
 rw [iV_length,List.length_take] at hj
 have c:=h.cellAt j (by omega)
 have e:(iV (K.take q))[j]?=(iV K)[j]?:=by unfold iV;rw [List.map_take,List.getElem?_take_of_lt (by omega)]
 rw [e] at hu
 have a:((⟨g,0,none⟩:Addr).add j)=⟨g,j,none⟩:=by simp [Addr.add];intro h;exact h.symm
 rw [a,c]
 exact hu
theorem isrc_drop {W:World} {B g cp:Nat} {K:List Int} (h:W.ownsRow B 3 1 (.slice (some ⟨g,0,none⟩) K.length cp) K.length (iV K)) (q:Nat):∀ j u,(iV (K.drop q))[j]?=some u→W.cell? ((⟨g,q,none⟩:Addr).add j)=some u:=by
 intro j u hu
 have hj:=(List.getElem?_eq_some_iff.1 hu).1
 rw [iV_length,List.length_drop] at hj
 have c:=h.cellAt (q+j) (by omega)
 have e:(iV (K.drop q))[j]?=(iV K)[q+j]?:=by unfold iV;rw [List.map_drop,List.getElem?_drop]
 rw [e] at hu
 have a:((⟨g,q,none⟩:Addr).add j)=⟨g,q+j,none⟩:=by simp [Addr.add]
 rw [a,c]
 exact hu
theorem own_slice11 {W:World} {B e k n:Nat} {v:Value} {xs:List Value} (h:W.ownsRow B e k v n xs) (h0:0 < n):∃ g c,v=.slice (some ⟨g,0,none⟩) n c∧n≤c∧c≤9223372036854775807:=by
 rcases h.2 with ⟨_,h⟩ | ⟨g,cap,cur,rfl,_,_,h2,h3,_⟩
 ·omega
 ·exact ⟨g,cap,rfl,h2,by unfold maxLen at h3;omega⟩
def IRow (w W:World) (r:Value) (K:List Int):Prop:=(r=.slice none 0 0∧K=[])∨(0 < K.length∧W.ownsRow w.heap.size 3 1 r K.length (iV K))
theorem IRow.ints {w W:World} {r:Value} {K:List Int} (h:IRow w W r K) (hn:K.length≤140737488351232):IsInts W r K:=by
 rcases h with ⟨rfl,rfl⟩ | ⟨_,h⟩
 ·exact IsRec.nil 1 intV W
 ·rw [← iV_rec] at h
  exact IsRec.own intV_len (by omega) h hn
section
variable {α:Type}
theorem startsF_snoc (s:Sp α):∀ (l:List (Sp α)) (acc:List Int),startsF acc (l++[s])=insI s.1 (startsF acc l)
 | [],acc=>rfl
 | x::l,acc=>by rw [List.cons_append,startsF,startsF,startsF_snoc s l]
end
theorem insI_in (k:Int):∀ K:List Int,K.Pairwise (·< ·)→k∈K→insI k K=K
 | [],_,h=>by cases h
 | x::K,hs,h=>by
   rw [insI]
   by_cases h1:x < k
   ·rw [if_pos h1]
    rcases List.mem_cons.1 h with rfl | h
    ·omega
    ·rw [insI_in k K (List.pairwise_cons.1 hs).2 h]
   ·rw [if_neg h1]
    rcases List.mem_cons.1 h with rfl | h
    ·rw [if_pos rfl]
    ·have:=(List.pairwise_cons.1 hs).1 k h
     omega
theorem insI_split (k:Int):∀ (K:List Int) (q:Nat) (hq:q≤K.length) (hl:∀ j (h:j < q),K[j]'(by omega) < k) (hn:∀ h:q < K.length,¬ K[q]'h < k) (hm:k ∉ K),insI k K=K.take q++k::K.drop q
 | [],q,hq,hl,hn,hm=>by
   obtain rfl:q=0:=by simpa using hq
   rfl
 | x::K,0,hq,hl,hn,hm=>by
   rw [insI]
   have:=hn (by simp)
   simp only [List.getElem_cons_zero] at this
   rw [if_neg this,if_neg (fun e=>hm (by rw [e];exact List.mem_cons_self ..))]
   rfl
 | x::K,q+1,hq,hl,hn,hm=>by
   rw [insI]
   have h0:=hl 0 (by omega)
   simp only [List.getElem_cons_zero] at h0
   rw [if_pos h0,insI_split k K q (by simpa using hq) (fun j h=>by have:=hl (j+1) (by omega);simpa using this) (fun h=>by have:=hn (by simpa using h);simpa using this) (fun h=>hm (List.mem_cons_of_mem _ h))]
   rfl
theorem insI_len (k:Int):∀ K:List Int,(insI k K).length≤K.length+1
 | []=>by simp [insI]
 | x::K=>by
   rw [insI]
   have:=insI_len k K
   split
   ·simp;omega
   ·split<;>simp
section
variable {α:Type}
theorem startsF_len:∀ (l:List (Sp α)) (acc:List Int),(startsF acc l).length≤acc.length+l.length
 | [],acc=>by rw [startsF];simp
 | s::l,acc=>by
   rw [startsF,List.length_cons]
   have h1:=startsF_len l (insI s.1 acc)
   have h2:=insI_len s.1 acc
   omega
theorem starts_len (l:List (Sp α)):(startsL l).length≤l.length:=by have:=startsF_len l [];simpa [startsL] using this
end
end Go.Proofs.YthamoeekiglphaaGreatDoor
namespace Go.Proofs.YthamoeekiglphaaGreatDoor
set_option maxRecDepth 100000
set_option linter.unusedVariables false
section
variable (kd:List UInt8→List UInt8)
def tagK (k:List UInt8):List UInt8:=kd (5::k)
def tagV (v:List UInt8):List UInt8:=if v=[] then [] else kd (6::v)
def tagE (x:Ev):Ev:=if keyedE x.1 then (x.1,x.2.1,tagK kd x.2.2.1,tagV kd x.2.2.2) else x
def tagsL (h:List Ev):List Ev:=h.map (tagE kd)
theorem tags_len (h:List Ev):(tagsL kd h).length=h.length:=by unfold tagsL;rw [List.length_map]
end
end Go.Proofs.YthamoeekiglphaaGreatDoor
