/-
  What the certificate's reader takes: rows of transactions, of edges, of proofs.
-/
import Derived.Test.YtkkenfhlgpjmjaaGreatDoorCL1b
namespace Go.Proofs.YtkkenfhlgpjmjaaGreatDoor
set_option maxRecDepth 100000
open Go.RowKit
set_option linter.unusedVariables false
attribute [local go_sem] ba_size
def preD {α:Type} (l:List α) (o:Option (List α × List UInt8)):Option (List α × List UInt8):=match o with
 | none=>none
 | some (m,s)=>some (l++m,s)
section
variable {α:Type} (A:Codec α)
theorem preD_nil (o:Option (List α × List UInt8)):preD [] o=o:=by cases o<;>rfl
theorem decs_no {N k:Nat} (hk:k < N) {q:List UInt8} (h:A.dec q=none):Codec.decs A (N - k) q=none:=by
 rw [show N - k=(N - (k+1))+1 by omega,Codec.decs,h]
theorem decs_go {N k:Nat} (hk:k < N) {q q':List UInt8} {x:α} (h:A.dec q=some (x,q')) (l:List α):preD l (Codec.decs A (N - k) q)=preD (l++[x]) (Codec.decs A (N - (k+1)) q'):=by
 rw [show N - k=(N - (k+1))+1 by omega,Codec.decs,h]
 simp only
 cases Codec.decs A (N - (k+1)) q' with
 | none=>rfl
 | some y=>simp [preD]
theorem decs_end {N:Nat} {q:List UInt8} (l:List α):preD l (Codec.decs A (N - N) q)=some (l,q):=by
 rw [Nat.sub_self,Codec.decs]
 simp [preD]
theorem many_no1 {m:Nat} {R:List UInt8} (h:(Codec.num m).dec R=none):(Codec.many A m).dec R=none:=by
 show (match (Codec.num m).dec R with | none=>none | some (n,r)=>Codec.decs A n.toNat r)=none
 rw [h]
theorem many_is {m N:Nat} {R r:List UInt8} (h:(Codec.num m).dec R=some ((N:Int),r)):(Codec.many A m).dec R=Codec.decs A N r:=by
 show (match (Codec.num m).dec R with | none=>none | some (n,r)=>Codec.decs A n.toNat r)=_
 rw [h]
 simp only [Int.toNat_natCast]
def setsL (xs:List Value):Nat→List Value→List Value
 | _,[]=>xs
 | j,v::vs=>setsL (xs.set j v) (j+1) vs
end
theorem setsL_app:∀ (vs a b c:List Value),b.length=vs.length→setsL (a++(b++c)) a.length vs=a++(vs++c)
 | [],a,[],c,_=>rfl
 | [],a,x::b,c,h=>by simp at h
 | v::vs,a,[],c,h=>by simp at h
 | v::vs,a,x::b,c,h=>by
   have h1:=setsL_app vs (a++[v]) b c (by simpa using h)
   rw [List.length_append,List.length_singleton] at h1
   show setsL ((a++(x::b++c)).set a.length v) (a.length+1) vs=_
   rw [List.set_append_right _ _ (Nat.le_refl _),Nat.sub_self]
   simpa using h1
theorem setsL_rec {α:Type} {enc:α→List Value} {sz:Nat} (hz:∀ x,(enc x).length=sz) (D R:List α) (z x:α):setsL (recV enc (D++z::R)) (D.length*sz) (enc x)=recV enc (D++x::R):=by
 have c:∀ y,recV enc (D++y::R)=recV enc D++(enc y++recV enc R):=fun y=>by rw [recV_append,show y::R=[y]++R from rfl,recV_append];simp [recV]
 rw [c,c,← recV_length hz D]
 exact setsL_app _ _ _ _ (by rw [hz,hz])
theorem owns_putL {B e k n cap g:Nat}:∀ (vs:List Value) (j:Nat) (xs:List Value) (W:World),W.ownsRow B e k (.slice (some ⟨g,0,none⟩) n cap) n xs→(putL W g j vs).ownsRow B e k (.slice (some ⟨g,0,none⟩) n cap) n (setsL xs j vs)
 | [],j,xs,W,h=>h
 | v::vs,j,xs,W,h=>owns_putL vs (j+1) (xs.set j v) _ (h.stored j v).1
theorem rec_z14 {α:Type} {enc:α→List Value} {sz:Nat} (hz:∀ x,(enc x).length=sz) (D R:List α) (z:α) (j:Nat) (hj:j < sz):(recV enc (D++z::R))[D.length*sz+j]?=(enc z)[j]?:=by
 have g:=recV_get hz (D++z::R) D.length (by simp) j hj
 rw [g]
 simp
theorem made_rec14 {α:Type} {enc:α→List Value} {sz:Nat} (hz:∀ x,(enc x).length=sz) (h0:0 < sz) (z:α) (n:Nat):(madeCells (enc z).toArray (n*sz)).toList=recV enc (List.replicate n z):=by
 apply List.ext_getElem?
 intro j
 by_cases hj:j < n*sz
 ·have h1:j / sz < n:=(Nat.div_lt_iff_lt_mul h0).2 hj
  have h2:j % sz < sz:=Nat.mod_lt _ h0
  have g:=recV_get hz (List.replicate n z) (j / sz) (by simpa using h1) (j % sz) h2
  rw [Nat.div_add_mod' j sz] at g
  rw [g,List.getElem_replicate]
  simp [madeCells,hj,hz,h2]
 ·have l:=recV_length hz (List.replicate n z)
  rw [List.length_replicate] at l
  rw [List.getElem?_eq_none (l:=recV enc _) (by rw [l];omega)]
  simp [madeCells,hj]
def PfR (B:Nat) (W:World) (L':List PVt) (L:List Pf):Prop:=L'.length=L.length∧∀ (i:Nat) x p,L'[i]?=some x→L[i]?=some p→x.1=p.1∧x.2.1=p.2.1∧TxB B W x.2.2 p.2.2
theorem PfR.nil (B:Nat) (W:World):PfR B W [] []:=⟨rfl,fun i x p h=>by simp at h⟩
theorem PfR.kept {B x:Nat} {W W':World} {L':List PVt} {L:List Pf} (h:PfR B W L' L) (hg:W.grownBy W' (some x)) (hx:x < B):PfR B W' L' L :=
 ⟨h.1,fun i y p hy hp=>⟨(h.2 i y p hy hp).1,(h.2 i y p hy hp).2.1,(h.2 i y p hy hp).2.2.kept hg hx⟩⟩
theorem PfR.base {B C:Nat} {W:World} {L':List PVt} {L:List Pf} (h:PfR B W L' L) (hBC:C≤B):PfR C W L' L :=
 ⟨h.1,fun i y p hy hp=>⟨(h.2 i y p hy hp).1,(h.2 i y p hy hp).2.1,(h.2 i y p hy hp).2.2.base hBC⟩⟩
theorem PfR.push {B:Nat} {W:World} {L':List PVt} {L:List Pf} (h:PfR B W L' L) (x:PVt) (p:Pf) (h1:x.1=p.1) (h2:x.2.1=p.2.1) (h3:TxB B W x.2.2 p.2.2):PfR B W (L'++[x]) (L++[p]):=by
 refine ⟨by simp [h.1],fun i y s hy hs=>?_⟩
 rcases Nat.lt_or_ge i L'.length with hi | hi
 ·rw [List.getElem?_append_left hi] at hy
  rw [List.getElem?_append_left (by rw [← h.1];exact hi)] at hs
  exact h.2 i y s hy hs
 ·rw [List.getElem?_append_right hi] at hy
  rw [List.getElem?_append_right (by rw [← h.1];exact hi)] at hs
  rw [h.1] at hy
  rcases Nat.eq_zero_or_pos (i - L.length) with h0 | h0
  ·rw [h0] at hy hs
   simp only [List.getElem?_cons_zero,Option.some.injEq] at hy hs
   subst hy hs
   exact ⟨h1,h2,h3⟩
  ·rw [List.getElem?_eq_none (by simp;omega)] at hy
   cases hy
theorem PfR.of {B:Nat} {W:World} {L':List PVt} {L:List Pf} (h:PfR B W L' L):PfOf W L' L :=
 ⟨h.1,fun i x p hx hp=>⟨(h.2 i x p hx hp).1,(h.2 i x p hx hp).2.1,(h.2 i x p hx hp).2.2.txt⟩⟩
theorem int_infoL:(Tryz.prog.info? 3).map (fun i=>(i.zero,i.size,i.bytes))=some (some (.int .i64 0),1,8):=by kernel_rfl
theorem pf_info14:(Tryz.prog.info? 66).map (fun i=>(i.zero,i.size,i.bytes))=some (some (.agg #[.int .i64 0,.int .i64 0,.int .i64 0,.string ByteArray.empty,.string ByteArray.empty,.slice none 0 0]),6,80):=pf_info
set_option maxHeartbeats 4000000 in
theorem plistI14 (m:Nat) (hm:m≤1000) (R:List UInt8) (hR:R.length≤9223372036854770000) (pb:Nat) (w:World) (hb:RB w pb R) :
 Calls Tryz.prog 178 #[.pointer (some ⟨pb,0,none⟩),.int .i64 m,.func (.func 179) #[.pointer (some ⟨pb,0,none⟩)] #[]] w fun e w'=>Rd w pb ((Codec.many Codec.txP m).dec R) (fun W L v=>W.ownsRow w.heap.size 3 1 v L.length (recV intV L)∧L.length≤m) e w':=by
 obtain ⟨i0,hi,hz0,hz1,hz2⟩:=info_parts int_infoL
 have hltb:=hb.lt
 go_enter Tryz.func178,Tryz.ntmps178
 go_wp2_with fail
 refine (pnum14 m (by omega) R (by omega) pb w hb).mono ?_
 intro e w1 h1
 cases d1:(Codec.num m).dec R with
 | none=>obtain ⟨g1,rfl⟩:=h1.is_no d1;exact ⟨rfl,Rd.no (many_no1 _ d1) g1⟩
 | some x =>
 obtain ⟨n,r1⟩:=x
 obtain ⟨g1,v,rfl,⟨rfl,n0,nm⟩,b1⟩:=h1.is_yes d1
 have R1:=Nat.le_trans (dec_less _ d1) hR
 clear h1
 obtain ⟨N,rfl⟩:∃ N:Nat,n=(N:Int):=⟨n.toNat,by omega⟩
 have HM:Hid ((Codec.many Codec.txP m).dec R=Codec.decs Codec.txP N r1):=many_is _ d1
 clear d1
 have hNm:N≤m:=by omega
 go_wp2_with (at_make;refine wpList_make_full _ rfl _ _ 23 rfl w1.heap.size 3 i0 (.int .i64 0) 1 Tryz.underlying23 hi hz0 hz1 .i64 .i64 _ _ N rfl rfl rfl rfl ?c1 ?c2 ?c3 ?_)
 case c1=>rw [hz2];omega
 case c2=>unfold maxLen;omega
 case c3=>omega
 intro w2 hown2 hg2
 have gs1:=g1.size
 have b2:=b1.kept14 (hg2.but (some w1.heap.size)) (by have:=b1.lt;omega)
 have G2:=g1.trans (hg2.but (some pb))
 have hrow2:w2.ownsRow w1.heap.size 3 1 (.slice (some ⟨w1.heap.size,0,none⟩) N N) N (recV intV ([]++List.replicate (N - 0) (0:Int))):=by
  have e:=made_rec14 (enc:=intV) (sz:=1) (fun _=>rfl) (by omega) (0:Int) N
  have h9:w2.ownsRow w1.heap.size 3 1 (.slice (some ⟨w1.heap.size,0,none⟩) N N) N (madeCells (intV (0:Int)).toArray (N*1)).toList:=by rw [Nat.mul_one];exact hown2
  rw [e] at h9
  exact h9
 have HD0:Hid ((Codec.many Codec.txP m).dec R=preD [] (Codec.decs Codec.txP (N - 0) r1)):=by show _=_;rw [HM.out,preD_nil];rfl
 have hs2:w1.heap.size+1≤w2.heap.size:=by have:=(hrow2.lt w1.heap.size rfl).2;omega
 clear hown2 HM
 go_wp2_with fail
 go_loopw [15] (fun i wr=>∃ (k:Nat) (l:List _) (q:List UInt8),k≤N∧i=.int .i64 k∧Hid (l.length=k)∧q.length≤9223372036854770000∧Hid ((Codec.many Codec.txP m).dec R=preD l (Codec.decs Codec.txP (N - k) q))∧RB wr pb q∧w.grownBy wr (some pb)∧w1.heap.size+1≤wr.heap.size∧wr.ownsRow w1.heap.size 3 1 (.slice (some ⟨w1.heap.size,0,none⟩) N N) N (recV intV (l++List.replicate (N - k) (0:Int)))) (fun i _=>N - (RowKit.intOf i).toNat)
 case atStart=>exact ⟨0,[],r1,Nat.zero_le _,rfl,rfl,R1,HD0,b2,G2,hs2,hrow2⟩
 case round =>
  obtain ⟨k,l,q,hk,rfl,HL,hq,HD,hbr,hgr,hsr,hrow⟩:=hrel
  by_cases hlt:k < N
  ·cases dA:Codec.txP.dec q with
   | none =>
     have HE:Hid ((Codec.many Codec.txP m).dec R=none):=by show _=_;rw [HD.out,decs_no _ hlt dA];rfl
     go_wp2_with fail
     refine (ptxn14 q hq pb _ hbr).mono ?_
     intro e w3 h3
     obtain ⟨g3,rfl⟩:=h3.is_no dA
     exact ⟨rfl,Rd.no HE.out (hgr.trans g3)⟩
   | some y =>
     obtain ⟨x,q'⟩:=y
     have HE:Hid ((Codec.many Codec.txP m).dec R=preD (l++[x]) (Codec.decs Codec.txP (N - (k+1)) q')):=by show _=_;rw [HD.out];exact decs_go _ hlt dA l
     have hq':=Nat.le_trans (dec_less _ dA) hq
     go_wp2_with fail
     refine (ptxn14 q hq pb _ hbr).mono ?_
     intro e w3 h3
     obtain ⟨g3,v,rfl,⟨rfl,_,_⟩,b3⟩:=h3.is_yes dA
     have hrow3:=hrow.kept g3 (.inr (by simp [Value.ownBlock];omega))
     rw [rep_drop N k _ hlt] at hrow3
     have hgs3:=g3.size
     clear hrow h3 dA
     have z0:=rec_z14 (enc:=intV) (sz:=1) (fun _=>rfl) l (List.replicate (N - (k+1)) (0:Int)) (0:Int) 0 (by omega)
     rw [HL.out,show k*1+0=k by omega] at z0
     have c0:w3.cell? ⟨w1.heap.size,k,none⟩=some (.int .i64 0):=(hrow3.cellAt (k) (by omega)).trans z0
     have f0:=hrow3.frozenAt (k)
     have PW:=owns_putL [.int .i64 x] (k) _ w3 hrow3
     have e9:=setsL_rec (enc:=intV) (sz:=1) (fun _=>rfl) l (List.replicate (N - (k+1)) (0:Int)) (0:Int) x
     rw [HL.out,Nat.mul_one] at e9
     have PW2:(putL w3 w1.heap.size (k) [.int .i64 x]).ownsRow w1.heap.size 3 1 (.slice (some ⟨w1.heap.size,0,none⟩) N N) N (recV intV ((l++[x])++List.replicate (N - (k+1)) (0:Int))):=by rw [List.append_assoc];exact e9 ▸ PW
     have PG:=grown_putL (B:=w1.heap.size) [.int .i64 x] (k) w3 (hgr.trans g3) gs1
     have PB:=RB.put (k:=k) (B:=w1.heap.size) [.int .i64 x] b3 (by omega)
     have PS:w1.heap.size+1≤(putL w3 w1.heap.size (k) [.int .i64 x]).heap.size:=by have:=(kept_putL (B:=w1.heap.size) [.int .i64 x] (k) w3).size;omega
     clear PW e9 hrow3
     go_wp2_with fail
     go_roundw
     case rel=>exact ⟨k+1,l++[x],q',by omega,by first | go_num | simp,by show _=_;rw [List.length_append,HL.out];rfl,hq',HE,PB,PG,PS,PW2⟩
     case measure=>simp [RowKit.intOf];omega
  ·obtain rfl:k=N:=by omega
   have HE:Hid ((Codec.many Codec.txP m).dec R=some (l,q)):=by show _=_;rw [HD.out];exact decs_end _ l
   rw [show k - k=0 by omega,List.replicate_zero,List.append_nil] at hrow
   go_wp2_with fail
   go_ret
   exact Rd.yes HE.out hgr ⟨by rw [HL.out];exact owns_base14 hrow gs1,by rw [HL.out];omega⟩ hbr
set_option maxHeartbeats 4000000 in
theorem plistE14 (m:Nat) (hm:m≤1000) (R:List UInt8) (hR:R.length≤9223372036854770000) (pb:Nat) (w:World) (hb:RB w pb R) :
 Calls Tryz.prog 181 #[.pointer (some ⟨pb,0,none⟩),.int .i64 m,.func (.func 182) #[.pointer (some ⟨pb,0,none⟩)] #[]] w fun e w'=>Rd w pb ((Codec.many Codec.edP m).dec R) (fun W L v=>W.ownsRow w.heap.size 71 5 v L.length (recV edV L)∧L.length≤m) e w':=by
 obtain ⟨i0,hi,hz0,hz1,hz2⟩:=info_parts ed_info
 have hltb:=hb.lt
 go_enter Tryz.func181,Tryz.ntmps181
 go_wp2_with fail
 refine (pnum14 m (by omega) R (by omega) pb w hb).mono ?_
 intro e w1 h1
 cases d1:(Codec.num m).dec R with
 | none=>obtain ⟨g1,rfl⟩:=h1.is_no d1;exact ⟨rfl,Rd.no (many_no1 _ d1) g1⟩
 | some x =>
 obtain ⟨n,r1⟩:=x
 obtain ⟨g1,v,rfl,⟨rfl,n0,nm⟩,b1⟩:=h1.is_yes d1
 have R1:=Nat.le_trans (dec_less _ d1) hR
 clear h1
 obtain ⟨N,rfl⟩:∃ N:Nat,n=(N:Int):=⟨n.toNat,by omega⟩
 have HM:Hid ((Codec.many Codec.edP m).dec R=Codec.decs Codec.edP N r1):=many_is _ d1
 clear d1
 have hNm:N≤m:=by omega
 go_wp2_with (at_make;refine wpList_make_full _ rfl _ _ 26 rfl w1.heap.size 71 i0 (.agg #[.int .i64 0,.int .i64 0,.int .i64 0,.int .i64 0,.int .i64 0]) 5 Tryz.underlying26 hi hz0 hz1 .i64 .i64 _ _ N rfl rfl rfl rfl ?c1 ?c2 ?c3 ?_)
 case c1=>rw [hz2];omega
 case c2=>unfold maxLen;omega
 case c3=>omega
 intro w2 hown2 hg2
 have gs1:=g1.size
 have b2:=b1.kept14 (hg2.but (some w1.heap.size)) (by have:=b1.lt;omega)
 have G2:=g1.trans (hg2.but (some pb))
 have hrow2:w2.ownsRow w1.heap.size 71 5 (.slice (some ⟨w1.heap.size,0,none⟩) N N) N (recV edV ([]++List.replicate (N - 0) (0,0,0,0,0))):=by
  have e:=made_rec14 (enc:=edV) (sz:=5) (fun _=>rfl) (by omega) (0,0,0,0,0) N
  have h9:w2.ownsRow w1.heap.size 71 5 (.slice (some ⟨w1.heap.size,0,none⟩) N N) N (madeCells (edV (0,0,0,0,0)).toArray (N*5)).toList:=hown2
  rw [e] at h9
  exact h9
 have HD0:Hid ((Codec.many Codec.edP m).dec R=preD [] (Codec.decs Codec.edP (N - 0) r1)):=by show _=_;rw [HM.out,preD_nil];rfl
 have hs2:w1.heap.size+1≤w2.heap.size:=by have:=(hrow2.lt w1.heap.size rfl).2;omega
 clear hown2 HM
 go_wp2_with fail
 go_loopw [15] (fun i wr=>∃ (k:Nat) (l:List _) (q:List UInt8),k≤N∧i=.int .i64 k∧Hid (l.length=k)∧q.length≤9223372036854770000∧Hid ((Codec.many Codec.edP m).dec R=preD l (Codec.decs Codec.edP (N - k) q))∧RB wr pb q∧w.grownBy wr (some pb)∧w1.heap.size+1≤wr.heap.size∧wr.ownsRow w1.heap.size 71 5 (.slice (some ⟨w1.heap.size,0,none⟩) N N) N (recV edV (l++List.replicate (N - k) (0,0,0,0,0)))) (fun i _=>N - (RowKit.intOf i).toNat)
 case atStart=>exact ⟨0,[],r1,Nat.zero_le _,rfl,rfl,R1,HD0,b2,G2,hs2,hrow2⟩
 case round =>
  obtain ⟨k,l,q,hk,rfl,HL,hq,HD,hbr,hgr,hsr,hrow⟩:=hrel
  by_cases hlt:k < N
  ·cases dA:Codec.edP.dec q with
   | none =>
     have HE:Hid ((Codec.many Codec.edP m).dec R=none):=by show _=_;rw [HD.out,decs_no _ hlt dA];rfl
     go_wp2_with fail
     refine (pedge14 q hq pb _ hbr).mono ?_
     intro e w3 h3
     obtain ⟨g3,rfl⟩:=h3.is_no dA
     exact ⟨rfl,Rd.no HE.out (hgr.trans g3)⟩
   | some y =>
     obtain ⟨x,q'⟩:=y
     have HE:Hid ((Codec.many Codec.edP m).dec R=preD (l++[x]) (Codec.decs Codec.edP (N - (k+1)) q')):=by show _=_;rw [HD.out];exact decs_go _ hlt dA l
     have hq':=Nat.le_trans (dec_less _ dA) hq
     go_wp2_with fail
     refine (pedge14 q hq pb _ hbr).mono ?_
     intro e w3 h3
     obtain ⟨x0,x1,x2,x3,x4⟩:=x
     obtain ⟨g3,v,rfl,rfl,b3⟩:=h3.is_yes dA
     simp only [edV]
     have hrow3:=hrow.kept g3 (.inr (by simp [Value.ownBlock];omega))
     rw [rep_drop N k _ hlt] at hrow3
     have hgs3:=g3.size
     clear hrow h3 dA
     have z0:=rec_z14 (enc:=edV) (sz:=5) (fun _=>rfl) l (List.replicate (N - (k+1)) (0,0,0,0,0)) (0,0,0,0,0) 0 (by omega)
     rw [HL.out] at z0
     have c0:w3.cell? ⟨w1.heap.size,k*5,none⟩=some (.int .i64 0):=(hrow3.cellAt (k*5) (by omega)).trans z0
     have f0:=hrow3.frozenAt (k*5)
     have z1:=rec_z14 (enc:=edV) (sz:=5) (fun _=>rfl) l (List.replicate (N - (k+1)) (0,0,0,0,0)) (0,0,0,0,0) 1 (by omega)
     rw [HL.out] at z1
     have c1:w3.cell? ⟨w1.heap.size,k*5+1,none⟩=some (.int .i64 0):=(hrow3.cellAt (k*5+1) (by omega)).trans z1
     have f1:=hrow3.frozenAt (k*5+1)
     have z2:=rec_z14 (enc:=edV) (sz:=5) (fun _=>rfl) l (List.replicate (N - (k+1)) (0,0,0,0,0)) (0,0,0,0,0) 2 (by omega)
     rw [HL.out] at z2
     have c2:w3.cell? ⟨w1.heap.size,k*5+2,none⟩=some (.int .i64 0):=(hrow3.cellAt (k*5+2) (by omega)).trans z2
     have f2:=hrow3.frozenAt (k*5+2)
     have z3:=rec_z14 (enc:=edV) (sz:=5) (fun _=>rfl) l (List.replicate (N - (k+1)) (0,0,0,0,0)) (0,0,0,0,0) 3 (by omega)
     rw [HL.out] at z3
     have c3:w3.cell? ⟨w1.heap.size,k*5+3,none⟩=some (.int .i64 0):=(hrow3.cellAt (k*5+3) (by omega)).trans z3
     have f3:=hrow3.frozenAt (k*5+3)
     have z4:=rec_z14 (enc:=edV) (sz:=5) (fun _=>rfl) l (List.replicate (N - (k+1)) (0,0,0,0,0)) (0,0,0,0,0) 4 (by omega)
     rw [HL.out] at z4
     have c4:w3.cell? ⟨w1.heap.size,k*5+4,none⟩=some (.int .i64 0):=(hrow3.cellAt (k*5+4) (by omega)).trans z4
     have f4:=hrow3.frozenAt (k*5+4)
     have PW:=owns_putL [.int .i64 x0,.int .i64 x1,.int .i64 x2,.int .i64 x3,.int .i64 x4] (k*5) _ w3 hrow3
     have e9:=setsL_rec (enc:=edV) (sz:=5) (fun _=>rfl) l (List.replicate (N - (k+1)) (0,0,0,0,0)) (0,0,0,0,0) (x0,x1,x2,x3,x4)
     rw [HL.out] at e9
     have PW2:(putL w3 w1.heap.size (k*5) [.int .i64 x0,.int .i64 x1,.int .i64 x2,.int .i64 x3,.int .i64 x4]).ownsRow w1.heap.size 71 5 (.slice (some ⟨w1.heap.size,0,none⟩) N N) N (recV edV ((l++[(x0,x1,x2,x3,x4)])++List.replicate (N - (k+1)) (0,0,0,0,0))):=by rw [List.append_assoc];exact e9 ▸ PW
     have PG:=grown_putL (B:=w1.heap.size) [.int .i64 x0,.int .i64 x1,.int .i64 x2,.int .i64 x3,.int .i64 x4] (k*5) w3 (hgr.trans g3) gs1
     have PB:=RB.put (k:=k*5) (B:=w1.heap.size) [.int .i64 x0,.int .i64 x1,.int .i64 x2,.int .i64 x3,.int .i64 x4] b3 (by omega)
     have PS:w1.heap.size+1≤(putL w3 w1.heap.size (k*5) [.int .i64 x0,.int .i64 x1,.int .i64 x2,.int .i64 x3,.int .i64 x4]).heap.size:=by have:=(kept_putL (B:=w1.heap.size) [.int .i64 x0,.int .i64 x1,.int .i64 x2,.int .i64 x3,.int .i64 x4] (k*5) w3).size;omega
     clear PW e9 hrow3
     go_wp2_with fail
     go_roundw
     case rel=>exact ⟨k+1,l++[(x0,x1,x2,x3,x4)],q',by omega,by first | go_num | simp,by show _=_;rw [List.length_append,HL.out];rfl,hq',HE,PB,PG,PS,PW2⟩
     case measure=>simp [RowKit.intOf];omega
  ·obtain rfl:k=N:=by omega
   have HE:Hid ((Codec.many Codec.edP m).dec R=some (l,q)):=by show _=_;rw [HD.out];exact decs_end _ l
   rw [show k - k=0 by omega,List.replicate_zero,List.append_nil] at hrow
   go_wp2_with fail
   go_ret
   exact Rd.yes HE.out hgr ⟨by rw [HL.out];exact owns_base14 hrow gs1,by rw [HL.out];omega⟩ hbr
set_option maxHeartbeats 4000000 in
theorem plistP14 (m:Nat) (hm:m≤1000) (R:List UInt8) (hR:R.length≤9223372036854770000) (pb:Nat) (w:World) (hb:RB w pb R) :
 Calls Tryz.prog 113 #[.pointer (some ⟨pb,0,none⟩),.int .i64 m,.func (.func 114) #[.pointer (some ⟨pb,0,none⟩)] #[]] w fun e w'=>Rd w pb ((Codec.many Codec.pfP m).dec R) (fun W L v=>∃ L':List PVt,W.ownsRow w.heap.size 66 6 v L'.length (recV pfV L')∧PfR w.heap.size W L' L∧L.length≤m) e w':=by
 obtain ⟨i0,hi,hz0,hz1,hz2⟩:=info_parts pf_info14
 have hltb:=hb.lt
 go_enter Tryz.func113,Tryz.ntmps113
 go_wp2_with fail
 refine (pnum14 m (by omega) R (by omega) pb w hb).mono ?_
 intro e w1 h1
 cases d1:(Codec.num m).dec R with
 | none=>obtain ⟨g1,rfl⟩:=h1.is_no d1;exact ⟨rfl,Rd.no (many_no1 _ d1) g1⟩
 | some x =>
 obtain ⟨n,r1⟩:=x
 obtain ⟨g1,v,rfl,⟨rfl,n0,nm⟩,b1⟩:=h1.is_yes d1
 have R1:=Nat.le_trans (dec_less _ d1) hR
 clear h1
 obtain ⟨N,rfl⟩:∃ N:Nat,n=(N:Int):=⟨n.toNat,by omega⟩
 have HM:Hid ((Codec.many Codec.pfP m).dec R=Codec.decs Codec.pfP N r1):=many_is _ d1
 clear d1
 have hNm:N≤m:=by omega
 go_wp2_with (at_make;refine wpList_make_full _ rfl _ _ 33 rfl w1.heap.size 66 i0 (.agg #[.int .i64 0,.int .i64 0,.int .i64 0,.string ByteArray.empty,.string ByteArray.empty,.slice none 0 0]) 6 Tryz.underlying33 hi hz0 hz1 .i64 .i64 _ _ N rfl rfl rfl rfl ?c1 ?c2 ?c3 ?_)
 case c1=>rw [hz2];omega
 case c2=>unfold maxLen;omega
 case c3=>omega
 intro w2 hown2 hg2
 have gs1:=g1.size
 have b2:=b1.kept14 (hg2.but (some w1.heap.size)) (by have:=b1.lt;omega)
 have G2:=g1.trans (hg2.but (some pb))
 have hrow2:w2.ownsRow w1.heap.size 66 6 (.slice (some ⟨w1.heap.size,0,none⟩) N N) N (recV pfV ([]++List.replicate (N - 0) (0,(0,0,[],[]),.slice none 0 0))):=by
  have e:=made_rec14 (enc:=pfV) (sz:=6) pfV_len (by omega) (0,(0,0,[],[]),.slice none 0 0) N
  have h9:w2.ownsRow w1.heap.size 66 6 (.slice (some ⟨w1.heap.size,0,none⟩) N N) N (madeCells (pfV (0,(0,0,[],[]),.slice none 0 0)).toArray (N*6)).toList:=hown2
  rw [e] at h9
  exact h9
 have HD0:Hid ((Codec.many Codec.pfP m).dec R=preD [] (Codec.decs Codec.pfP (N - 0) r1)):=by show _=_;rw [HM.out,preD_nil];rfl
 have hs2:w1.heap.size+1≤w2.heap.size:=by have:=(hrow2.lt w1.heap.size rfl).2;omega
 clear hown2 HM
 go_wp2_with fail
 go_loopw [15] (fun i wr=>∃ (k:Nat) (l:List Pf) (l':List PVt) (q:List UInt8),k≤N∧i=.int .i64 k∧Hid (l'.length=k)∧q.length≤9223372036854770000∧Hid ((Codec.many Codec.pfP m).dec R=preD l (Codec.decs Codec.pfP (N - k) q))∧RB wr pb q∧w.grownBy wr (some pb)∧w1.heap.size+1≤wr.heap.size∧PfR (w1.heap.size+1) wr l' l∧wr.ownsRow w1.heap.size 66 6 (.slice (some ⟨w1.heap.size,0,none⟩) N N) N (recV pfV (l'++List.replicate (N - k) (0,(0,0,[],[]),.slice none 0 0)))) (fun i _=>N - (RowKit.intOf i).toNat)
 case atStart=>exact ⟨0,[],[],r1,Nat.zero_le _,rfl,rfl,R1,HD0,b2,G2,hs2,PfR.nil _ _,hrow2⟩
 case round =>
  obtain ⟨k,l,l',q,hk,rfl,HL,hq,HD,hbr,hgr,hsr,hPR,hrow⟩:=hrel
  have HL2:Hid (l.length=k):=by show _=_;rw [← hPR.1];exact HL.out
  by_cases hlt:k < N
  ·cases dA:Codec.pfP.dec q with
   | none =>
     have HE:Hid ((Codec.many Codec.pfP m).dec R=none):=by show _=_;rw [HD.out,decs_no _ hlt dA];rfl
     go_wp2_with fail
     refine (pproof14 q hq pb _ hbr).mono ?_
     intro e w3 h3
     obtain ⟨g3,rfl⟩:=h3.is_no dA
     exact ⟨rfl,Rd.no HE.out (hgr.trans g3)⟩
   | some y =>
     obtain ⟨x,q'⟩:=y
     have HE:Hid ((Codec.many Codec.pfP m).dec R=preD (l++[x]) (Codec.decs Codec.pfP (N - (k+1)) q')):=by show _=_;rw [HD.out];exact decs_go _ hlt dA l
     have hq':=Nat.le_trans (dec_less _ dA) hq
     go_wp2_with fail
     refine (pproof14 q hq pb _ hbr).mono ?_
     intro e w3 h3
     obtain ⟨p0,pe,pp⟩:=x
     obtain ⟨g3,v,rfl,⟨⟨y0,⟨y1,y2,y3,y4⟩,y5⟩,rfl,e0,e1,hT⟩,b3⟩:=h3.is_yes dA
     obtain ⟨va,vcap,rfl,_⟩:=hT.txt.len
     have hT:=hT.base (C:=w1.heap.size+1) (by omega)
     have hPR3:=hPR.kept g3 (by omega)
     simp only [pfV]
     have hrow3:=hrow.kept g3 (.inr (by simp [Value.ownBlock];omega))
     rw [rep_drop N k _ hlt] at hrow3
     have hgs3:=g3.size
     clear hrow h3 dA
     have z0:=rec_z14 (enc:=pfV) (sz:=6) pfV_len l' (List.replicate (N - (k+1)) (0,(0,0,[],[]),.slice none 0 0)) (0,(0,0,[],[]),.slice none 0 0) 0 (by omega)
     rw [HL.out] at z0
     have c0:w3.cell? ⟨w1.heap.size,k*6,none⟩=some (.int .i64 0):=(hrow3.cellAt (k*6) (by omega)).trans z0
     have f0:=hrow3.frozenAt (k*6)
     have z1:=rec_z14 (enc:=pfV) (sz:=6) pfV_len l' (List.replicate (N - (k+1)) (0,(0,0,[],[]),.slice none 0 0)) (0,(0,0,[],[]),.slice none 0 0) 1 (by omega)
     rw [HL.out] at z1
     have c1:w3.cell? ⟨w1.heap.size,k*6+1,none⟩=some (.int .i64 0):=(hrow3.cellAt (k*6+1) (by omega)).trans z1
     have f1:=hrow3.frozenAt (k*6+1)
     have z2:=rec_z14 (enc:=pfV) (sz:=6) pfV_len l' (List.replicate (N - (k+1)) (0,(0,0,[],[]),.slice none 0 0)) (0,(0,0,[],[]),.slice none 0 0) 2 (by omega)
     rw [HL.out] at z2
     have c2:w3.cell? ⟨w1.heap.size,k*6+2,none⟩=some (.int .i64 0):=(hrow3.cellAt (k*6+2) (by omega)).trans z2
     have f2:=hrow3.frozenAt (k*6+2)
     have z3:=rec_z14 (enc:=pfV) (sz:=6) pfV_len l' (List.replicate (N - (k+1)) (0,(0,0,[],[]),.slice none 0 0)) (0,(0,0,[],[]),.slice none 0 0) 3 (by omega)
     rw [HL.out] at z3
     have c3:w3.cell? ⟨w1.heap.size,k*6+3,none⟩=some (.string ⟨#[]⟩):=(hrow3.cellAt (k*6+3) (by omega)).trans z3
     have f3:=hrow3.frozenAt (k*6+3)
     have z4:=rec_z14 (enc:=pfV) (sz:=6) pfV_len l' (List.replicate (N - (k+1)) (0,(0,0,[],[]),.slice none 0 0)) (0,(0,0,[],[]),.slice none 0 0) 4 (by omega)
     rw [HL.out] at z4
     have c4:w3.cell? ⟨w1.heap.size,k*6+4,none⟩=some (.string ⟨#[]⟩):=(hrow3.cellAt (k*6+4) (by omega)).trans z4
     have f4:=hrow3.frozenAt (k*6+4)
     have z5:=rec_z14 (enc:=pfV) (sz:=6) pfV_len l' (List.replicate (N - (k+1)) (0,(0,0,[],[]),.slice none 0 0)) (0,(0,0,[],[]),.slice none 0 0) 5 (by omega)
     rw [HL.out] at z5
     have c5:w3.cell? ⟨w1.heap.size,k*6+5,none⟩=some (.slice none 0 0):=(hrow3.cellAt (k*6+5) (by omega)).trans z5
     have f5:=hrow3.frozenAt (k*6+5)
     have PW:=owns_putL [.int .i64 y0,.int .i64 y1,.int .i64 y2,.string ⟨y3.toArray⟩,.string ⟨y4.toArray⟩,.slice va pp.length vcap] (k*6) _ w3 hrow3
     have e9:=setsL_rec (enc:=pfV) (sz:=6) pfV_len l' (List.replicate (N - (k+1)) (0,(0,0,[],[]),.slice none 0 0)) (0,(0,0,[],[]),.slice none 0 0) (y0,(y1,y2,y3,y4),Value.slice va pp.length vcap)
     rw [HL.out] at e9
     have PW2:(putL w3 w1.heap.size (k*6) [.int .i64 y0,.int .i64 y1,.int .i64 y2,.string ⟨y3.toArray⟩,.string ⟨y4.toArray⟩,.slice va pp.length vcap]).ownsRow w1.heap.size 66 6 (.slice (some ⟨w1.heap.size,0,none⟩) N N) N (recV pfV ((l'++[(y0,(y1,y2,y3,y4),Value.slice va pp.length vcap)])++List.replicate (N - (k+1)) (0,(0,0,[],[]),.slice none 0 0))):=by rw [List.append_assoc];exact e9 ▸ PW
     have PG:=grown_putL (B:=w1.heap.size) [.int .i64 y0,.int .i64 y1,.int .i64 y2,.string ⟨y3.toArray⟩,.string ⟨y4.toArray⟩,.slice va pp.length vcap] (k*6) w3 (hgr.trans g3) gs1
     have PB:=RB.put (k:=k*6) (B:=w1.heap.size) [.int .i64 y0,.int .i64 y1,.int .i64 y2,.string ⟨y3.toArray⟩,.string ⟨y4.toArray⟩,.slice va pp.length vcap] b3 (by omega)
     have PS:w1.heap.size+1≤(putL w3 w1.heap.size (k*6) [.int .i64 y0,.int .i64 y1,.int .i64 y2,.string ⟨y3.toArray⟩,.string ⟨y4.toArray⟩,.slice va pp.length vcap]).heap.size:=by have:=(kept_putL (B:=w1.heap.size) [.int .i64 y0,.int .i64 y1,.int .i64 y2,.string ⟨y3.toArray⟩,.string ⟨y4.toArray⟩,.slice va pp.length vcap] (k*6) w3).size;omega
     have PP:=(hPR3.kept (kept_putL (B:=w1.heap.size) [.int .i64 y0,.int .i64 y1,.int .i64 y2,.string ⟨y3.toArray⟩,.string ⟨y4.toArray⟩,.slice va pp.length vcap] (k*6) w3) (by omega)).push (y0,(y1,y2,y3,y4),Value.slice va pp.length vcap) (p0,pe,pp) e0 e1 (hT.kept (kept_putL _ _ _) (by omega))
     clear PW e9 hrow3
     go_wp2_with fail
     go_roundw
     case rel=>exact ⟨k+1,l++[(p0,pe,pp)],l'++[(y0,(y1,y2,y3,y4),Value.slice va pp.length vcap)],q',by omega,by first | go_num | simp,by show _=_;rw [List.length_append,HL.out];rfl,hq',HE,PB,PG,PS,PP,PW2⟩
     case measure=>simp [RowKit.intOf];omega
  ·obtain rfl:k=N:=by omega
   have HE:Hid ((Codec.many Codec.pfP m).dec R=some (l,q)):=by show _=_;rw [HD.out];exact decs_end _ l
   rw [show k - k=0 by omega,List.replicate_zero,List.append_nil] at hrow
   go_wp2_with fail
   go_ret
   exact Rd.yes HE.out hgr ⟨l',by rw [HL.out];exact owns_base14 hrow gs1,hPR.base (by omega),by rw [HL2.out];omega⟩ hbr
end Go.Proofs.YtkkenfhlgpjmjaaGreatDoor
