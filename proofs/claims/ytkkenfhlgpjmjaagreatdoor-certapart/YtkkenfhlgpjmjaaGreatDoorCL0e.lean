/-
  A certificate's bytes as the program takes them, each number with its own bound: in lists, of no program. What lump.TakeRow answers, at whatever bytes. What lum
-/
import Derived.Test.YtkkenfhlgpjmjaaGreatDoorCL0d
import Derived.Shelf.SlIterI.Nil
import Derived.Shelf.SlIterI.Sorted
import Derived.Defers
import Derived.Recover
import Derived.KernelRfl
import Derived.Laws.Externs
namespace Go.Proofs.YtkkenfhlgpjmjaaGreatDoor
set_option maxRecDepth 100000
set_option linter.unusedVariables false
namespace Codec
end Codec
theorem cq_enc (c:Ct):Codec.cqK.enc c=bytC c:=by
 obtain ⟨a,b,p,d,e,⟨f,g,o,⟨k0,k1,k2⟩,r⟩,q⟩:=c
 have h1:∀ l:List Int,Codec.encs Codec.txP l=l.flatMap nb14:=encs_flat _ _ (fun _=>rfl)
 have h2:∀ l:List Ed,Codec.encs Codec.edP l=l.flatMap edY:=encs_flat _ _ (fun x=>by
  obtain ⟨x0,x1,x2,x3,x4⟩:=x
  show nb14 x0++(nb14 x1++(nb14 x2++(nb14 x3++nb14 x4)))=_
  unfold edY
  simp only [List.append_assoc])
 have h3:∀ l:List Pf,Codec.encs Codec.pfP l=l.flatMap pfY:=encs_flat _ _ (fun x=>by
  obtain ⟨x0,x1,x2⟩:=x
  show nb14 x0++(txtE (bytE x1)++(Lm.lenL x2.length++Lm.body x2))=_
  unfold pfY
  simp only [List.append_assoc])
 have hn:∀ n:Nat,nb14 (n:Int)=Lm.numL n:=fun n=>by unfold nb14;rw [Int.toNat_natCast]
 show txtE a++(nb14 b++(txtE p++(txtE d++(nb14 e++((nb14 f++(nb14 (if g=true then 1 else 0)++((Lm.numL o.length++Codec.encs Codec.txP o)++((nb14 k0++(nb14 k1++nb14 k2))++(Lm.numL r.length++Codec.encs Codec.edP r)))))++(Lm.numL q.length++Codec.encs Codec.pfP q))))))=_
 unfold bytC
 simp only [h1,h2,h3,hn,List.append_assoc]
theorem mayq_ok (c:Ct) (hc:mayC c):Codec.cqK.ok c:=by
 obtain ⟨a,b,p,d,e,⟨f,g,o,⟨k0,k1,k2⟩,r⟩,q⟩:=c
 obtain ⟨⟨a1,a2,a3,a4,a5,a6⟩,⟨⟨v1,v2,v3,⟨v4,v5⟩,v6⟩,v7,v8⟩,p1,p2⟩:=hc
 simp only at a1 a2 a3 a4 a5 a6 v1 v2 v3 v4 v5 v6 v7 v8 p1 p2
 have n:∀ (m:Nat) (x:Int),m≤1048576→0≤x→x≤m→(Codec.num m).ok x:=fun m x hm h1 h2=>⟨h1,h2,by show x.toNat < 2 ^ 64;omega⟩
 refine ⟨⟨a1.2,by show a.length≤65535;omega⟩,n _ b (by omega) (by omega) (by omega),⟨by show p.length≤32;omega,by show p.length≤65535;omega⟩,⟨by show d.length≤32;omega,by show d.length≤65535;omega⟩,n _ e (by omega) a5 (by omega),⟨n _ f (by omega) (by omega) (by omega),?_,⟨v2,by show o.length < 2 ^ 64;omega,fun x hx=>?_⟩,⟨n _ k0 (by omega) (by omega) (by omega),n _ k1 (by omega) (by omega) (by omega),n _ k2 (by omega) (by omega) (by omega)⟩,⟨v6,by show r.length < 2 ^ 64;omega,fun x hx=>?_⟩⟩,p1,by show q.length < 2 ^ 64;omega,fun x hx=>?_⟩
 ·show 0≤(if g=true then (1:Int) else 0)∧(if g=true then (1:Int) else 0)≤((1:Nat):Int)∧(if g=true then (1:Int) else 0).toNat < 2 ^ 64
  cases g<;>decide
 ·have:=v7 x hx;exact n _ x (by omega) (by omega) (by omega)
 ·obtain ⟨⟨e1,e2⟩,⟨⟨e3,e4⟩,e5,e6⟩,⟨e7,e8⟩,e9,e10⟩:=v8 x hx
  exact ⟨n _ _ (by omega) (by omega) (by omega),n _ _ (by omega) (by omega) (by omega),n _ _ (by omega) (by omega) (by omega),n _ _ (by omega) (by omega) (by omega),n _ _ (by omega) (by omega) (by omega)⟩
 ·obtain ⟨⟨⟨e1,e2⟩,e3⟩,e4,e5⟩:=p2 x hx
  refine ⟨n _ _ (by omega) e1 (by omega),e3,e4,by show x.2.2.length≤65535;omega,fun t ht=>?_⟩
  have:=e5 t ht
  omega
theorem takeC14_q (s:List UInt8):takeC14 s=match Codec.whole Codec.cqK s with
 | some c=>if mayC c then some c else none
 | none=>none:=by
 cases ht:takeC14 s with
 | some c =>
   obtain ⟨h1,h2⟩:=take14_only s c ht
   have:=Codec.whole_back Codec.cqK c [] (mayq_ok c h1)
   rw [List.append_nil,if_pos rfl,cq_enc,h2] at this
   rw [this]
   simp only
   rw [if_pos h1]
 | none =>
   cases hw:Codec.whole Codec.cqK s with
   | none=>rfl
   | some c =>
     simp only
     by_cases hm:mayC c
     ·exfalso
      have:=Codec.whole_only Codec.cqK s c hw
      rw [cq_enc] at this
      have h2:=take14_back c hm
      rw [this.2,ht] at h2
      cases h2
     ·rw [if_neg hm]
end Go.Proofs.YtkkenfhlgpjmjaaGreatDoor
namespace Go.Proofs.YtkkenfhlgpjmjaaGreatDoor
set_option maxRecDepth 100000
open Go.RowKit
attribute [local go_sem] ba_size ba_get ba_extract ba_append wrap_byte wrap_u64_byte take_drop_end
set_option maxHeartbeats 1000000 in
theorem takeRow_new (s:List UInt8) (many most:Int) (w:World) (hs:s.length≤9223372036854775807) :
 Calls Tryz.prog 237 #[.string ⟨s.toArray⟩,.int .i64 many,.int .i64 most] w fun e w'=>(∃ a n cap,e=.returned (.tuple #[.slice a n cap,.string ⟨(Lm.takeRowL s many most).2.1.toArray⟩,.int .i64 ((Lm.takeRowL s many most).2.2:Int)])∧IsStrs w' a n (Lm.takeRowL s many most).1∧w'.ownsRow w.heap.size 9 1 (.slice a n cap) n (strV (Lm.takeRowL s many most).1))∧Below w.heap.size w w':=by
 have hbd:=takeLenL_bd s many
 have hc:=takeLength_any s many w hs
 unfold Lm.takeRowL
 generalize Lm.takeLenL s many=x at *
 obtain ⟨n,rest,e⟩:=x
 have HC:Hid (Calls Tryz.prog 235 #[.string ⟨s.toArray⟩,.int .i64 many] w fun e' w'=>e'=.returned (.tuple #[.int .i64 (n:Int),.string ⟨rest.toArray⟩,.int .i64 (e:Int)])∧Below w.heap.size w w'):=hc
 simp only at hbd
 clear hc
 by_cases he:e≠0
 ·simp only [he,ne_eq,not_false_eq_true,if_true]
  have hb:((e:Int)==0)=false:=by simp;omega
  go_enter Tryz.func237,Tryz.ntmps237
  go_wp2_with fail
  refine HC.out.mono ?_
  rintro e w1 ⟨rfl,hb1⟩
  go_wp2_with fail
  go_ret3
  exact ⟨⟨none,0,0,rfl,⟨rfl,by simp,by omega,.inl rfl⟩,⟨rfl,.inl ⟨rfl,rfl⟩⟩⟩,hb1⟩
 ·have he':e=0:=by omega
  subst he'
  clear he
  simp only [ne_eq,not_true_eq_false,if_false]
  obtain ⟨i0,hi,hz0,hz1,hz2⟩:=info_parts str_info
  obtain ⟨hn,hrs⟩:=hbd
  have hrl:rest.length≤9223372036854775807:=by omega
  by_cases hmin:rest.length < n
  ·go_enter Tryz.func237,Tryz.ntmps237
   go_wp2_with fail
   refine HC.out.mono ?_
   rintro e w1 ⟨rfl,hb1⟩
   go_wp2_with (at_make;refine wpList_make_own _ rfl _ _ 59 rfl w.heap.size 9 i0 (.string ByteArray.empty) 1 Tryz.underlying59 hi hz0 hz1 .i64 .i64 _ rest.length rfl rfl rfl ?c1 ?c2 ?c3 ?_)
   case c1=>rw [hz2];omega
   case c2=>unfold maxLen;omega
   case c3=>have:=hb1.size;omega
   intro w2 hown2 hgrow2
   have hbw:Below w.heap.size w w2:=hb1.grown hgrow2 hb1.size (by intro k hk;cases hk)
   clear hb1 hgrow2
   have HP0:Hid (Lm.takeN n rest most=Lm.pre [] (Lm.takeN (n - 0) rest most)):=(Lm.pre_nil _ (Lm.takeN_bad n rest most)).symm
   have HO2:Hid (w2.ownsRow w.heap.size 9 1 (.slice (some ⟨w1.heap.size,0,none⟩) 0 rest.length) 0 (strV [])):=hown2
   clear hown2
   go_wp2_with fail
   go_loopw [10,12,30] (fun r v i wr=>∃ (k:Nat) (l:List (List UInt8)) (q:List UInt8),k≤n∧i=.int .i64 k∧r=.string ⟨q.toArray⟩∧q.length≤9223372036854775807∧Hid (wr.ownsRow w.heap.size 9 1 v k (strV l))∧Hid (∀ t∈l,t.length≤65535)∧Hid (Lm.takeN n rest most=Lm.pre l (Lm.takeN (n - k) q most))∧Below w.heap.size w wr)
    (fun _ _ i _=>n - (intOf i).toNat)
   case atStart=>exact ⟨0,[],rest,Nat.zero_le _,rfl,rfl,hrl,HO2,(fun t ht=>by cases ht),HP0,hbw⟩
   case round =>
    obtain ⟨k,l,q,hk,rfl,rfl,hql,HO,HA,HP,hbk⟩:=hrel
    by_cases hlt:k < n
    ·obtain ⟨m,hm⟩:∃ m,n - k=m+1:=⟨n - k - 1,by omega⟩
     have HM:Hid (n - k=m+1):=hm
     clear hm
     have hbt:=takeTextL_bd q most
     have hct:=takeText_any q most wr hql
     have hstep:((Lm.takeTextL q most).2.2≠0∧Lm.takeN n rest most=([],[],(Lm.takeTextL q most).2.2))∨((Lm.takeTextL q most).2.2=0∧Lm.takeN n rest most=Lm.pre (l++[(Lm.takeTextL q most).1]) (Lm.takeN (n - (k+1)) (Lm.takeTextL q most).2.1 most)):=by
      have hp:=HP.out
      rw [HM.out] at hp
      have hm1:n - (k+1)=m:=by have:=HM.out;omega
      by_cases h0:(Lm.takeTextL q most).2.2=0
      ·right;exact ⟨h0,by rw [hp,Lm.pre_step_ok l m q most h0,hm1]⟩
      ·left;exact ⟨h0,by rw [hp,Lm.pre_step_bad l m q most h0]⟩
     generalize Lm.takeTextL q most=y at *
     obtain ⟨t,q',e'⟩:=y
     have HCT:Hid (Calls Tryz.prog 176 #[.string ⟨q.toArray⟩,.int .i64 most] wr fun e w'=>e=.returned (.tuple #[.string ⟨t.toArray⟩,.string ⟨q'.toArray⟩,.int .i64 (e':Int)])∧Below wr.heap.size wr w'):=hct
     clear hct
     simp only at hbt
     obtain ⟨hbt1,hbt2⟩:=hbt
     rcases hstep with ⟨h0,hF⟩ | ⟨h0,hF⟩
     ·have HF:Hid (Lm.takeN n rest most=([],[],e')):=hF
      have hb:((e':Int)==0)=false:=by simp at h0 ⊢;omega
      clear hF h0
      go_wp2_with fail
      refine HCT.out.mono ?_
      rintro e w3 ⟨rfl,hb3⟩
      go_wp2_with fail
      go_ret3
      refine ⟨⟨none,0,0,?_,?_,by rw [HF.out];exact ⟨rfl,.inl ⟨rfl,rfl⟩⟩⟩,bel_trans hbk hb3⟩
      ·rw [HF.out];rfl
      ·rw [HF.out];exact ⟨rfl,by simp,by omega,.inl rfl⟩
     ·have HF:Hid (Lm.takeN n rest most=Lm.pre (l++[t]) (Lm.takeN (n - (k+1)) q' most)):=hF
      have h0':e'=0:=h0
      subst h0'
      clear hF h0
      go_wp2_with fail
      refine HCT.out.mono ?_
      rintro e w3 ⟨rfl,hb3⟩
      have hown3:w3.ownsRow w.heap.size 9 1 u12 k (strV l):=owns_below HO.out hb3
      have hs3:=hb3.size
      have hs4:=hbk.size
      go_wp2_with (at_builtin;refine wpList_append_own _ rfl _ _ 59 rfl w.heap.size 9 i0 (.string ByteArray.empty) 1 16 Tryz.underlying59 hi hz0 hz1 hz2 rfl (by decide) _ _ _ rfl (hown3.alloc _) ⟨w3.heap.size,0,none⟩ 1 1 [.string ⟨t.toArray⟩] rfl rfl ?d1 ?d2 ?d3 ?d4 ?d5 ?_)
      case d1 =>
       intro j u hj
       match j,hj with
       | 0,hj=>simp at hj;subst hj;simp [Addr.add]
      case d2=>intro u hu;simp at hu;subst hu;rfl
      case d3=>unfold maxLen;omega
      case d4=>omega
      case d5=>simp;omega
      intro v' w4 hown4 hgrow4 _
      have HO4:Hid (w4.ownsRow w.heap.size 9 1 v' (k+1) (strV (l++[t]))):=by
       show w4.ownsRow _ _ _ _ _ _
       rw [strV_snoc];exact hown4
      have hbk4:Below w.heap.size w w4:=((bel_trans hbk hb3).alloc (by omega) _).grown hgrow4 (by simp;omega) (fun j hj=>(hown3.lt j hj).1)
      have HA4:Hid (∀ x∈l++[t],x.length≤65535):=by
       intro x hx
       rcases List.mem_append.1 hx with h | h
       ·exact HA.out x h
       ·simp at h;subst h;exact hbt1
      clear hown4 hgrow4 hown3 hb3
      go_wp2
      go_roundw
      case rel=>exact ⟨k+1,l++[t],q',by omega,by go_num,rfl,by omega,HO4,HA4,HF,hbk4⟩
      case measure=>simp [intOf];omega
    ·obtain rfl:k=n:=by omega
     have HF:Hid (Lm.takeN k rest most=(l,q,0)):=by
      show Lm.takeN k rest most=_
      rw [HP.out,Nat.sub_self,Lm.takeN]
      simp [Lm.pre]
     obtain ⟨a,cap,hv,hst⟩:=strs_own HO.out hn HA.out
     have HV:Hid (u12=.slice a k cap):=hv
     have HST:Hid (IsStrs wr a k l):=hst
     clear hv hst
     go_wp2
     go_ret3
     refine ⟨⟨a,k,cap,?_,?_,by rw [HF.out,← HV.out];exact HO.out⟩,hbk⟩
     ·rw [HF.out,← HV.out];rfl
     ·rw [HF.out];exact HST.out
  ·go_enter Tryz.func237,Tryz.ntmps237
   go_wp2_with fail
   refine HC.out.mono ?_
   rintro e w1 ⟨rfl,hb1⟩
   go_wp2_with (at_make;refine wpList_make_own _ rfl _ _ 59 rfl w.heap.size 9 i0 (.string ByteArray.empty) 1 Tryz.underlying59 hi hz0 hz1 .i64 .i64 _ n rfl rfl rfl ?c1 ?c2 ?c3 ?_)
   case c1=>rw [hz2];omega
   case c2=>unfold maxLen;omega
   case c3=>have:=hb1.size;omega
   intro w2 hown2 hgrow2
   have hbw:Below w.heap.size w w2:=hb1.grown hgrow2 hb1.size (by intro k hk;cases hk)
   clear hb1 hgrow2
   have HP0:Hid (Lm.takeN n rest most=Lm.pre [] (Lm.takeN (n - 0) rest most)):=(Lm.pre_nil _ (Lm.takeN_bad n rest most)).symm
   have HO2:Hid (w2.ownsRow w.heap.size 9 1 (.slice (some ⟨w1.heap.size,0,none⟩) 0 n) 0 (strV [])):=hown2
   clear hown2
   go_wp2_with fail
   go_loopw [10,12,30] (fun r v i wr=>∃ (k:Nat) (l:List (List UInt8)) (q:List UInt8),k≤n∧i=.int .i64 k∧r=.string ⟨q.toArray⟩∧q.length≤9223372036854775807∧Hid (wr.ownsRow w.heap.size 9 1 v k (strV l))∧Hid (∀ t∈l,t.length≤65535)∧Hid (Lm.takeN n rest most=Lm.pre l (Lm.takeN (n - k) q most))∧Below w.heap.size w wr)
    (fun _ _ i _=>n - (intOf i).toNat)
   case atStart=>exact ⟨0,[],rest,Nat.zero_le _,rfl,rfl,hrl,HO2,(fun t ht=>by cases ht),HP0,hbw⟩
   case round =>
    obtain ⟨k,l,q,hk,rfl,rfl,hql,HO,HA,HP,hbk⟩:=hrel
    by_cases hlt:k < n
    ·obtain ⟨m,hm⟩:∃ m,n - k=m+1:=⟨n - k - 1,by omega⟩
     have HM:Hid (n - k=m+1):=hm
     clear hm
     have hbt:=takeTextL_bd q most
     have hct:=takeText_any q most wr hql
     have hstep:((Lm.takeTextL q most).2.2≠0∧Lm.takeN n rest most=([],[],(Lm.takeTextL q most).2.2))∨((Lm.takeTextL q most).2.2=0∧Lm.takeN n rest most=Lm.pre (l++[(Lm.takeTextL q most).1]) (Lm.takeN (n - (k+1)) (Lm.takeTextL q most).2.1 most)):=by
      have hp:=HP.out
      rw [HM.out] at hp
      have hm1:n - (k+1)=m:=by have:=HM.out;omega
      by_cases h0:(Lm.takeTextL q most).2.2=0
      ·right;exact ⟨h0,by rw [hp,Lm.pre_step_ok l m q most h0,hm1]⟩
      ·left;exact ⟨h0,by rw [hp,Lm.pre_step_bad l m q most h0]⟩
     generalize Lm.takeTextL q most=y at *
     obtain ⟨t,q',e'⟩:=y
     have HCT:Hid (Calls Tryz.prog 176 #[.string ⟨q.toArray⟩,.int .i64 most] wr fun e w'=>e=.returned (.tuple #[.string ⟨t.toArray⟩,.string ⟨q'.toArray⟩,.int .i64 (e':Int)])∧Below wr.heap.size wr w'):=hct
     clear hct
     simp only at hbt
     obtain ⟨hbt1,hbt2⟩:=hbt
     rcases hstep with ⟨h0,hF⟩ | ⟨h0,hF⟩
     ·have HF:Hid (Lm.takeN n rest most=([],[],e')):=hF
      have hb:((e':Int)==0)=false:=by simp at h0 ⊢;omega
      clear hF h0
      go_wp2_with fail
      refine HCT.out.mono ?_
      rintro e w3 ⟨rfl,hb3⟩
      go_wp2_with fail
      go_ret3
      refine ⟨⟨none,0,0,?_,?_,by rw [HF.out];exact ⟨rfl,.inl ⟨rfl,rfl⟩⟩⟩,bel_trans hbk hb3⟩
      ·rw [HF.out];rfl
      ·rw [HF.out];exact ⟨rfl,by simp,by omega,.inl rfl⟩
     ·have HF:Hid (Lm.takeN n rest most=Lm.pre (l++[t]) (Lm.takeN (n - (k+1)) q' most)):=hF
      have h0':e'=0:=h0
      subst h0'
      clear hF h0
      go_wp2_with fail
      refine HCT.out.mono ?_
      rintro e w3 ⟨rfl,hb3⟩
      have hown3:w3.ownsRow w.heap.size 9 1 u12 k (strV l):=owns_below HO.out hb3
      have hs3:=hb3.size
      have hs4:=hbk.size
      go_wp2_with (at_builtin;refine wpList_append_own _ rfl _ _ 59 rfl w.heap.size 9 i0 (.string ByteArray.empty) 1 16 Tryz.underlying59 hi hz0 hz1 hz2 rfl (by decide) _ _ _ rfl (hown3.alloc _) ⟨w3.heap.size,0,none⟩ 1 1 [.string ⟨t.toArray⟩] rfl rfl ?d1 ?d2 ?d3 ?d4 ?d5 ?_)
      case d1 =>
       intro j u hj
       match j,hj with
       | 0,hj=>simp at hj;subst hj;simp [Addr.add]
      case d2=>intro u hu;simp at hu;subst hu;rfl
      case d3=>unfold maxLen;omega
      case d4=>omega
      case d5=>simp;omega
      intro v' w4 hown4 hgrow4 _
      have HO4:Hid (w4.ownsRow w.heap.size 9 1 v' (k+1) (strV (l++[t]))):=by
       show w4.ownsRow _ _ _ _ _ _
       rw [strV_snoc];exact hown4
      have hbk4:Below w.heap.size w w4:=((bel_trans hbk hb3).alloc (by omega) _).grown hgrow4 (by simp;omega) (fun j hj=>(hown3.lt j hj).1)
      have HA4:Hid (∀ x∈l++[t],x.length≤65535):=by
       intro x hx
       rcases List.mem_append.1 hx with h | h
       ·exact HA.out x h
       ·simp at h;subst h;exact hbt1
      clear hown4 hgrow4 hown3 hb3
      go_wp2
      go_roundw
      case rel=>exact ⟨k+1,l++[t],q',by omega,by go_num,rfl,by omega,HO4,HA4,HF,hbk4⟩
      case measure=>simp [intOf];omega
    ·obtain rfl:k=n:=by omega
     have HF:Hid (Lm.takeN k rest most=(l,q,0)):=by
      show Lm.takeN k rest most=_
      rw [HP.out,Nat.sub_self,Lm.takeN]
      simp [Lm.pre]
     obtain ⟨a,cap,hv,hst⟩:=strs_own HO.out hn HA.out
     have HV:Hid (u12=.slice a k cap):=hv
     have HST:Hid (IsStrs wr a k l):=hst
     clear hv hst
     go_wp2
     go_ret3
     refine ⟨⟨a,k,cap,?_,?_,by rw [HF.out,← HV.out];exact HO.out⟩,hbk⟩
     ·rw [HF.out,← HV.out];rfl
     ·rw [HF.out];exact HST.out
set_option maxHeartbeats 400000 in
theorem take_ok (b:UInt8) (r:List UInt8) (w:World) (hs:r.length+1≤9223372036854775807) (h8:b.toNat≤8) (hl:b.toNat≤r.length) (hz:¬ (0 < b.toNat∧r.head?=some 0)) :
 Calls Tryz.prog 177 #[.string ⟨(b::r).toArray⟩] w fun e w'=>e=.returned (.tuple #[.int .u64 (Lm.val (r.take b.toNat)),.string ⟨(r.drop b.toNat).toArray⟩,.int .i64 0])∧Below w.heap.size w w':=by
 have HH:Hid (∀ k,k≤b.toNat→Lm.val (r.take k) < 256 ^ k):=fun k hk=>by
  have:=Lm.val_lt (r.take k);rwa [List.length_take_of_le (by omega)] at this
 have hgo:b.toNat=0∨∃ hr0:0 < r.length,((r[0].toNat:Int)==0)=false:=by
  by_cases h0:0 < b.toNat
  ·have hr0:0 < r.length:=by omega
   refine .inr ⟨hr0,?_⟩
   cases r with
   | nil=>simp at hr0
   | cons a r =>
     simp only [List.head?_cons,Option.some.injEq,h0,true_and] at hz
     simp only [List.getElem_cons_zero,beq_eq_false_iff_ne,ne_eq]
     intro h;apply hz;apply UInt8.toNat_inj.1;simpa using h
  ·exact .inl (by omega)
 clear hz
 have hgo':¬ 0 < b.toNat∨(0 < b.toNat∧∃ hr0:0 < r.length,((r[0].toNat:Int)==0)=false):=by
  rcases hgo with h | h
  ·exact .inl (by omega)
  ·by_cases h0:0 < b.toNat
   ·exact .inr ⟨h0,h⟩
   ·exact .inl h0
 clear hgo
 rcases hgo' with h0 | ⟨h0,hr0,hrz⟩
 all_goals
  go_enter Tryz.func177,Tryz.ntmps177
  go_wp2
  go_quiet (fail)
  go_wp2
  go_loop [7,33] (fun a i=>∃ k:Nat,k≤b.toNat∧i=.int .i64 k∧a=.int .u64 (Lm.val (r.take k))) (fun _ i=>b.toNat - (intOf i).toNat)
  case atStart=>exact ⟨0,Nat.zero_le _,rfl,rfl⟩
  case round =>
   obtain ⟨k,hk,rfl,rfl⟩:=hrel
   by_cases hlt:k < b.toNat
   ·have hkr:k < r.length:=by omega
    have hb1:=HH.out k hk
    have hb2:Lm.val (r.take k) < 72057594037927936:=by
     have:256 ^ k≤256 ^ 7:=Nat.pow_le_pow_right (by omega) (by omega)
     have e:(256:Nat) ^ 7=72057594037927936:=by decide
     omega
    have hor:Lm.val (r.take (k+1))=256*Lm.val (r.take k)+r[k].toNat:=by
     rw [List.take_succ_eq_append_getElem hkr,Lm.val_snoc]
    have HO:Hid _:=hor
    clear hb1 hor
    have hob:=or_byte (Lm.val (r.take k)) r[k] hb2
    go_wp2
    go_round
    case rel=>exact ⟨k+1,by omega,by go_num,by rw [HO.out];rfl⟩
    case measure=>simp [intOf];omega
   ·obtain rfl:k=b.toNat:=by omega
    go_wp2
    go_quiet (fail)
    go_wp2
    go_ret3
    exact ⟨rfl,below_drewN (below_drewN (Below.refl _ _) _) _⟩
set_option maxHeartbeats 400000 in
theorem takeNum_any (l:List UInt8) (w:World) (hs:l.length≤9223372036854775807) :
 Calls Tryz.prog 177 #[.string ⟨l.toArray⟩] w fun e w'=>e=.returned (.tuple #[.int .u64 ((Lm.takeNumL l).1:Int),.string ⟨(Lm.takeNumL l).2.1.toArray⟩,.int .i64 ((Lm.takeNumL l).2.2:Int)])∧Below w.heap.size w w':=by
 match l,hs with
 | [],_ =>
   go_enter Tryz.func177,Tryz.ntmps177
   go_wp2
   go_ret3
   exact ⟨rfl,Below.refl _ _⟩
 | b::r,hs =>
   simp only [List.length_cons] at hs
   rw [Lm.takeNumL]
   by_cases h8:8 < b.toNat
   ·rw [if_pos h8]
    go_enter Tryz.func177,Tryz.ntmps177
    go_wp2
    go_quiet (fail)
    go_wp2
    go_ret3
    exact ⟨rfl,below_drewN (Below.refl _ _) _⟩
   rw [if_neg h8]
   by_cases hl:r.length < b.toNat
   ·rw [if_pos hl]
    go_enter Tryz.func177,Tryz.ntmps177
    go_wp2
    go_quiet (fail)
    go_wp2
    go_ret3
    exact ⟨rfl,below_drewN (Below.refl _ _) _⟩
   rw [if_neg hl]
   by_cases hz:0 < b.toNat∧r.head?=some 0
   ·rw [if_pos hz]
    obtain ⟨h0,hz⟩:=hz
    match r,hz with
    | a::r,hz =>
      simp only [List.head?_cons,Option.some.injEq] at hz
      subst hz
      simp only [List.length_cons] at hs hl
      go_enter Tryz.func177,Tryz.ntmps177
      go_wp2
      go_quiet (fail)
      go_wp2
      go_ret3
      exact ⟨rfl,below_drewN (Below.refl _ _) _⟩
   rw [if_neg hz]
   exact take_ok b r w hs (by omega) (by omega) hz
end Go.Proofs.YtkkenfhlgpjmjaaGreatDoor
namespace Go.Proofs.YtkkenfhlgpjmjaaGreatDoor
set_option maxRecDepth 100000
open Go.RowKit
set_option linter.unusedVariables false
attribute [local go_sem] ba_size
abbrev RB (W:World) (pb:Nat) (R:List UInt8):Prop:=SBox W pb 110 #[.string ⟨R.toArray⟩]
abbrev fault14:List PanicEntry:=[{ v:=.iface 36 (.int .i64 3),recovered:=false }]
def Rd {α:Type} (W:World) (pb:Nat) (o:Option (α × List UInt8)) (V:World→α→Value→Prop) (e:Ending) (W':World):Prop :=
 W.grownBy W' (some pb)∧match o with
 | some (a,r)=>∃ v,e=.returned v∧V W' a v∧RB W' pb r
 | none=>e=.panicked fault14
theorem grown_set14 (w:World) (b k:Nat) (u:Value):w.grownBy (w.setCell ⟨b,k,none⟩ u) (some b) :=
 ⟨rfl,rfl,rfl,by simp [World.setCell],fun i hi hne=>Below.heap_setCell w ⟨b,k,none⟩ u i (fun e=>hne (by rw [e]))⟩
theorem dec_less {α:Type} (A:Codec α) {s r:List UInt8} {a:α} (h:A.dec s=some (a,r)):r.length≤s.length:=by
 have:=(A.only s a r h).2
 rw [← this,List.length_append]
 omega
theorem pwant14_yes (w:World):Calls Tryz.prog 52 #[.bool true] w fun e w'=>e=.returned (.tuple #[])∧w'=w:=by
 go_enter Tryz.func52,Tryz.ntmps52
 go_wp2
 go_end0
 exact ⟨rfl,rfl⟩
theorem pwant14_no (w:World):Calls Tryz.prog 52 #[.bool false] w fun e w'=>e=.panicked fault14∧w'=w:=by
 go_enter Tryz.func52,Tryz.ntmps52
 go_wp2
 exact ⟨rfl,rfl,rfl⟩
set_option maxHeartbeats 1000000 in
theorem pnum14 (m:Nat) (hm:m≤1048576) (R:List UInt8) (hR:R.length≤9223372036854775807) (pb:Nat) (w:World) (hb:RB w pb R) :
 Calls Tryz.prog 111 #[.pointer (some ⟨pb,0,none⟩),.int .i64 m] w fun e w'=>Rd w pb ((Codec.num m).dec R) (fun _ n v=>v=.int .i64 n∧0≤n∧n≤m) e w':=by
 show Calls _ _ _ _ fun e w'=>Rd w pb (if (Lm.takeNumL R).2.2≠0∨m < (Lm.takeNumL R).1 then none else some (((Lm.takeNumL R).1:Int),(Lm.takeNumL R).2.1)) (fun _ n v=>v=.int .i64 n∧0≤n∧n≤m) e w'
 have D:=takeNum_any R w hR
 generalize Lm.takeNumL R=x at *
 obtain ⟨n,r,g⟩:=x
 simp only at D ⊢
 have hwm:IntKind.u64.wrap (m:Int)=(m:Int):=by rw [IntKind.wrap_u64];omega
 have c0:w.cell? ⟨pb,0,none⟩=some (.string ⟨R.toArray⟩):=hb.cell 0 _ rfl
 have fin:∀ w1,Below w.heap.size w w1→w.grownBy (w1.setCell ⟨pb,0,none⟩ (.string ⟨r.toArray⟩)) (some pb):=fun w1 b1=>(grown_below8 (some pb) b1).trans (grown_set14 w1 pb 0 _)
 by_cases hg:g=0
 ·subst hg
  by_cases hn:m < n
  ·rw [if_pos (.inr hn)]
   have hle:¬ (n:Int)≤(m:Int):=by omega
   go_enter Tryz.func111,Tryz.ntmps111
   go_wp2_with fail
   refine D.mono ?_
   rintro e w1 ⟨rfl,b1⟩
   have h1:=hb.below b1
   have f1:=h1.frozen 0
   have c1:w1.cell? ⟨pb,0,none⟩=some (.string ⟨R.toArray⟩):=h1.cell 0 _ rfl
   go_wp2_with fail
   rw [show decide (n≤m)=false by rw [decide_eq_false_iff_not];omega]
   refine (pwant14_no _).mono ?_
   rintro e w2 ⟨rfl,rfl⟩
   exact ⟨rfl,fin w1 b1,rfl⟩
  ·rw [if_neg (c:=0≠0∨m < n) (by omega)]
   have hle:(n:Int)≤(m:Int):=by omega
   have hwn:IntKind.i64.wrap (n:Int)=(n:Int):=by rw [IntKind.wrap_i64];omega
   go_enter Tryz.func111,Tryz.ntmps111
   go_wp2_with fail
   refine D.mono ?_
   rintro e w1 ⟨rfl,b1⟩
   have h1:=hb.below b1
   have f1:=h1.frozen 0
   have c1:w1.cell? ⟨pb,0,none⟩=some (.string ⟨R.toArray⟩):=h1.cell 0 _ rfl
   go_wp2_with fail
   refine (pwant14_yes _).mono ?_
   rintro e w2 ⟨rfl,rfl⟩
   go_wp2_with fail
   go_ret
   exact ⟨fin w1 b1,_,rfl,⟨rfl,by omega,by omega⟩,h1.set 0 _⟩
 ·rw [if_pos (.inl hg)]
  have hgb:((g:Int)==0)=false:=by simpa using hg
  go_enter Tryz.func111,Tryz.ntmps111
  go_wp2_with fail
  refine D.mono ?_
  rintro e w1 ⟨rfl,b1⟩
  have h1:=hb.below b1
  have f1:=h1.frozen 0
  have c1:w1.cell? ⟨pb,0,none⟩=some (.string ⟨R.toArray⟩):=h1.cell 0 _ rfl
  go_wp2_with fail
  refine (pwant14_no _).mono ?_
  rintro e w2 ⟨rfl,rfl⟩
  exact ⟨rfl,fin w1 b1,rfl⟩
set_option maxHeartbeats 1000000 in
theorem ptext14 (m:Nat) (R:List UInt8) (hR:R.length≤9223372036854775807) (pb:Nat) (w:World) (hb:RB w pb R) :
 Calls Tryz.prog 110 #[.pointer (some ⟨pb,0,none⟩),.int .i64 m] w fun e w'=>Rd w pb ((Codec.text m).dec R) (fun _ t v=>v=.string ⟨t.toArray⟩∧t.length≤R.length) e w':=by
 have HB:∀ t r,(Codec.text m).dec R=some (t,r)→t.length≤R.length:=fun t r h=>by
  have:=((Codec.text m).only R t r h).2
  have e2:txtE t++r=R:=this
  rw [← e2];unfold txtE;simp;omega
 have E:(Codec.text m).dec R=if (Lm.takeTextL R m).2.2≠0 then none else some ((Lm.takeTextL R m).1,(Lm.takeTextL R m).2.1):=rfl
 rw [E] at HB ⊢
 have D:=takeText_any R m w hR
 generalize Lm.takeTextL R m=x at *
 obtain ⟨n,r,g⟩:=x
 simp only at D HB ⊢
 have fin:∀ w1,Below w.heap.size w w1→w.grownBy (w1.setCell ⟨pb,0,none⟩ (.string ⟨r.toArray⟩)) (some pb):=fun w1 b1=>(grown_below8 (some pb) b1).trans (grown_set14 w1 pb 0 _)
 have c0:w.cell? ⟨pb,0,none⟩=some (.string ⟨R.toArray⟩):=hb.cell 0 _ rfl
 by_cases hg:g=0
 ·subst hg
  rw [if_neg (by simp)] at HB ⊢
  go_enter Tryz.func110,Tryz.ntmps110
  go_wp2_with fail
  refine D.mono ?_
  rintro e w1 ⟨rfl,b1⟩
  have h1:=hb.below b1
  have f1:=h1.frozen 0
  have c1:w1.cell? ⟨pb,0,none⟩=some (.string ⟨R.toArray⟩):=h1.cell 0 _ rfl
  go_wp2_with fail
  refine (pwant14_yes _).mono ?_
  rintro e w2 ⟨rfl,rfl⟩
  go_wp2_with fail
  go_ret
  exact ⟨fin w1 b1,_,rfl,⟨rfl,HB _ _ rfl⟩,h1.set 0 _⟩
 ·rw [if_pos hg]
  have hgb:((g:Int)==0)=false:=by simpa using hg
  go_enter Tryz.func110,Tryz.ntmps110
  go_wp2_with fail
  refine D.mono ?_
  rintro e w1 ⟨rfl,b1⟩
  have h1:=hb.below b1
  have f1:=h1.frozen 0
  have c1:w1.cell? ⟨pb,0,none⟩=some (.string ⟨R.toArray⟩):=h1.cell 0 _ rfl
  go_wp2_with fail
  refine (pwant14_no _).mono ?_
  rintro e w2 ⟨rfl,rfl⟩
  exact ⟨rfl,fin w1 b1,rfl⟩
def TxB (B:Nat) (W:World) (v:Value) (l:List (List UInt8)):Prop:=W.ownsRow B 9 1 v l.length (strV l)∧l.length≤140737488351232∧∀ t∈l,t.length≤1125899906842624
theorem TxB.kept {B x:Nat} {W W':World} {v:Value} {l:List (List UInt8)} (h:TxB B W v l) (hg:W.grownBy W' (some x)) (hx:x < B):TxB B W' v l:=by
 refine ⟨h.1.kept hg ?_,h.2⟩
 cases hv:v.ownBlock with
 | none=>exact .inl rfl
 | some g=>exact .inr (fun e=>by have:=(h.1.lt g hv).1;cases e;omega)
theorem owns_base14 {B C e k n:Nat} {v:Value} {xs:List Value} {W:World} (h:W.ownsRow B e k v n xs) (hBC:C≤B):W.ownsRow C e k v n xs:=by
 refine ⟨h.1,?_⟩
 rcases h.2 with h2 | ⟨g,cap,cur,h3,h4,h5⟩
 ·exact .inl h2
 ·exact .inr ⟨g,cap,cur,h3,Nat.le_trans hBC h4,h5⟩
theorem owns_later14 {B e k n x:Nat} {v:Value} {xs:List Value} {W W':World} (h:W.ownsRow B e k v n xs) (hg:W.grownBy W' (some x)) (hx:x < B):W'.ownsRow B e k v n xs:=by
 refine h.kept hg ?_
 cases hv:v.ownBlock with
 | none=>exact .inl rfl
 | some g=>exact .inr (fun e=>by have:=(h.lt g hv).1;cases e;omega)
theorem owns_slice14 {B e k n:Nat} {v:Value} {xs:List Value} {W:World} (h:W.ownsRow B e k v n xs):∃ a cap,v=.slice a n cap:=by
 rcases h.2 with ⟨rfl,rfl⟩ | ⟨g,cap,cur,rfl,_⟩
 ·exact ⟨none,0,rfl⟩
 ·exact ⟨_,cap,rfl⟩
theorem TxB.base {B C:Nat} {W:World} {v:Value} {l:List (List UInt8)} (h:TxB B W v l) (hBC:C≤B):TxB C W v l:=⟨owns_base14 h.1 hBC,h.2⟩
theorem TxB.txt {B:Nat} {W:World} {v:Value} {l:List (List UInt8)} (h:TxB B W v l):IsTxt W v l:=IsTxt.own h.1 h.2.1 h.2.2
set_option maxHeartbeats 1000000 in
theorem ppath14 (R:List UInt8) (hR:R.length≤9223372036854775807) (pb:Nat) (w:World) (hb:RB w pb R) :
 Calls Tryz.prog 184 #[.pointer (some ⟨pb,0,none⟩)] w fun e w'=>Rd w pb ((Codec.row 12 32).dec R) (fun W l v=>TxB w.heap.size W v l) e w':=by
 have E:(Codec.row 12 32).dec R=if (Lm.takeRowL R 12 32).2.2≠0 then none else some ((Lm.takeRowL R 12 32).1,(Lm.takeRowL R 12 32).2.1):=rfl
 rw [E]
 have D:=takeRow_new R 12 32 w hR
 generalize Lm.takeRowL R 12 32=x at *
 obtain ⟨n,r,g⟩:=x
 simp only at D ⊢
 have fin:∀ w1,Below w.heap.size w w1→w.grownBy (w1.setCell ⟨pb,0,none⟩ (.string ⟨r.toArray⟩)) (some pb):=fun w1 b1=>(grown_below8 (some pb) b1).trans (grown_set14 w1 pb 0 _)
 have c0:w.cell? ⟨pb,0,none⟩=some (.string ⟨R.toArray⟩):=hb.cell 0 _ rfl
 have hlt:=hb.lt
 by_cases hg:g=0
 ·subst hg
  rw [if_neg (by simp)]
  go_enter Tryz.func184,Tryz.ntmps184
  go_wp2_with fail
  refine D.mono ?_
  rintro e w1 ⟨⟨a,k,cap,rfl,hS,hN⟩,b1⟩
  have h1:=hb.below b1
  have f1:=h1.frozen 0
  have c1:w1.cell? ⟨pb,0,none⟩=some (.string ⟨R.toArray⟩):=h1.cell 0 _ rfl
  go_wp2_with fail
  refine (pwant14_yes _).mono ?_
  rintro e w2 ⟨rfl,rfl⟩
  go_wp2_with fail
  go_ret
  have hk:k=n.length:=hS.1.symm
  refine ⟨fin w1 b1,_,rfl,TxB.kept ⟨hk ▸ hN,by have:=hS.2.2.1;omega,fun t ht=>by have:=hS.2.1 t ht;omega⟩ (grown_set14 w1 pb 0 _) hlt,h1.set 0 _⟩
 ·rw [if_pos hg]
  have hgb:((g:Int)==0)=false:=by simpa using hg
  go_enter Tryz.func184,Tryz.ntmps184
  go_wp2_with fail
  refine D.mono ?_
  rintro e w1 ⟨⟨a,k,cap,rfl,hS,hN⟩,b1⟩
  have h1:=hb.below b1
  have f1:=h1.frozen 0
  have c1:w1.cell? ⟨pb,0,none⟩=some (.string ⟨R.toArray⟩):=h1.cell 0 _ rfl
  go_wp2_with fail
  refine (pwant14_no _).mono ?_
  rintro e w2 ⟨rfl,rfl⟩
  exact ⟨rfl,fin w1 b1,rfl⟩
end Go.Proofs.YtkkenfhlgpjmjaaGreatDoor
namespace Go.Proofs.YtkkenfhlgpjmjaaGreatDoor
set_option maxRecDepth 100000
open Go.RowKit
set_option linter.unusedVariables false
section
variable {P:Program} {ops:Array Oper} {md:Region.Mode} {Q:Exit→Act→World→Prop}
def chainW (md:Region.Mode) (ops:Array Oper):Nat→List Nat→Bool
 | _,[]=>true
 | i,m::ms=>Region.waitsFor md ops m i&&chainW md ops m ms
def unlB (listed:Array Bool) (ms:List Nat):Bool:=ms.all fun m=>listed.getD m false==false
theorem unlB_iff (listed:Array Bool) (ms:List Nat):unlB listed ms=true↔∀ m∈ms,listed.getD m false=false:=by
 unfold unlB
 rw [List.all_eq_true]
 exact ⟨fun h m hm=>by simpa using h m hm,fun h m hm=>by simpa using h m hm⟩
theorem chain_not (listed:Array Bool) (j:Nat) (hj:j∈Region.ready md ops listed):∀ (ms:List Nat) (i:Nat),listed.getD i false=false→(∀ m∈ms,listed.getD m false=false)→chainW md ops i ms=true→j ∉ ms
 | [],_,_,_,_=>by simp
 | m::ms,i,hi,hu,hc=>by
   rw [chainW,Bool.and_eq_true] at hc
   intro hm
   rcases List.mem_cons.1 hm with e | e
   ·subst e
    obtain ⟨o',ho',e,he,hb,hon⟩:=Region.waitsFor_spec hc.1
    obtain ⟨_,oj,hoj,hall⟩:=mem_ready.1 hj
    obtain rfl:o'=oj:=Option.some.inj (ho'.symm.trans hoj)
    have h4:=hall e he hb
    rw [hon,hi] at h4
    cases h4
   ·exact chain_not listed j hj ms m (hu m (List.mem_cons_self ..)) (fun x hx=>hu x (List.mem_cons_of_mem _ hx)) hc.2 e
theorem firstCC {C:World→Prop} {d i:Nat} {ms:List Nat} {oi:Oper} {v:Value} (hi:ops[i]?=some oi) (hsel:∀ (j:Nat) (o:Oper) cs b,ops[j]?=some o→o.op≠.select cs b)
 (hc:chainW md ops i ms=true) (hdm:d∈ms) (hQ:∀ c a w,Q (.panic c) (a.put oi.dst v) w→Q (.panic c) a w) :
 ∀ (f:Nat) (listed:Array Bool) (a:Act) (w:World),(∀ m∈ms,listed.getD m false=false) →
   (∀ j oj,ops[j]?=some oj→j≠i→listed.getD j true=false→(∀ e∈oj.after,Region.binds md e=true→e.on≠i)→oi.apart ops oj=true) →
   i∈Region.ready md ops listed→YieldsC C P ops oi v a →
   wpAnyC C d P md ops Q f (listed.setIfInBounds i true) (a.put oi.dst v) w→wpAnyC C d P md ops Q (f+1) listed a w:=by
 have hnm:∀ (listed:Array Bool) j,i∈Region.ready md ops listed→(∀ m∈ms,listed.getD m false=false)→j∈Region.ready md ops listed→j ∉ ms:=fun listed j hr hu hj =>
  chain_not listed j hj ms i (getD_both (mem_ready.1 hr).1) hu hc
 intro f
 induction f with
 | zero =>
   intro listed a w hml _ hr hy H
   have hdl:=hml d hdm
   have hid:i≠d:=fun e=>hnm listed i hr hml hr (by rw [e];exact hdm)
   refine .inr ⟨hdl,H.2 (by rw [getD_set_ne false hid];exact hdl),fun h=>(by rw [h] at hr;cases hr),fun j hj=>?_⟩
   by_cases hji:j=i
   ·subst hji;exact hy.op hi (H.2 (by rw [getD_set_ne false hid];exact hdl)) H
   ·have:=ready_mono hj hji
    rw [H.1.1] at this
    cases this
 | succ f ih =>
   intro listed a w hml hfree hr hy H
   have hdl:=hml d hdm
   have hid:i≠d:=fun e=>hnm listed i hr hml hr (by rw [e];exact hdm)
   rcases H with H | H
   ·rw [getD_set_ne false hid,hdl] at H;cases H.1
   ·obtain ⟨hd1,hC,hn,H⟩:=H
    refine .inr ⟨hdl,hC,fun h=>(by rw [h] at hr;cases hr),fun j hj=>?_⟩
    by_cases hji:j=i
    ·subst hji;exact hy.op hi hC (.inr ⟨hd1,hC,hn,H⟩)
    ·have h1:=H j (ready_mono hj hji)
     obtain ⟨hjun,oj,hoj,hall⟩:=mem_ready.1 hj
     have hnot:∀ e∈oj.after,Region.binds md e=true→e.on≠i:=fun e he hb heq=>by
      have h1:=hall e he hb
      rw [heq,getD_both (mem_ready.1 hr).1] at h1
      cases h1
     have h2:=wpOp_putC hoj (hfree j oj hoj hji hjun hnot) (fun cs b=>hsel i oi cs b hi) (fun cs b=>hsel j oj cs b hoj) hQ hy h1
     have hjm:=hnm listed j hr hml hj
     refine wpOp_mono (fun a' w' h3=>ih (listed.setIfInBounds j true) a' w' (fun m hm=>by rw [getD_set_ne false (fun e=>hjm (by rw [e];exact hm))];exact hml m hm) (fun k ok hk hki hku hno=>?_) (ready_mono hr (Ne.symm hji)) h3.1 ?_) h2
     ·refine hfree k ok hk hki ?_ hno
      by_cases hjk:j=k
      ·subst hjk;exact hjun
      ·rw [getD_set_ne true hjk] at hku;exact hku
     ·rw [Array.setIfInBounds_comm _ _ hji]
      exact h3.2
theorem takeCC {C:World→Prop} {d i:Nat} (ms:List Nat) {oi:Oper} {v:Value} {f:Nat} {listed:Array Bool} {a:Act} {w:World} (hi:ops[i]?=some oi)
 (hs:Region.noSelect ops=true) (hf:Region.free md ops listed i=true) (hr:(Region.ready md ops listed).contains i=true) (hc:chainW md ops i ms=true) (hd:ms.contains d=true) (hml:unlB listed ms=true)
 (hQ:∀ c a w,Q (.panic c) (a.put oi.dst v) w→Q (.panic c) a w) (hy:YieldsC C P ops oi v a)
 (h:wpAnyC C d P md ops Q f (listed.setIfInBounds i true) (a.put oi.dst v) w):wpAnyC C d P md ops Q (f+1) listed a w :=
 firstCC hi (Region.noSelect_spec hs) hc (by simpa using hd) hQ f listed a w ((unlB_iff _ _).1 hml) (Region.free_spec hi hf) (by simpa using hr) hy h
end
end Go.Proofs.YtkkenfhlgpjmjaaGreatDoor
namespace Go.Proofs.YtkkenfhlgpjmjaaGreatDoor
set_option maxRecDepth 100000
open Go.RowKit Go.Maps Go.Sort Go.Shelf
set_option linter.unusedVariables false
def keysA14_ren:Go.Shelf.Ren:=⟨fun | 7=>101 | 10=>173 | n=>n,fun | 23=>90 | 26=>3 | 3=>167 | 28=>165 | 0=>0 | 27=>164 | 33=>126 | 4=>4 | n=>n,fun n=>n⟩
theorem keysA14:Go.Proofs.SlLaysZI.n7 Tryz.prog keysA14_ren:={
 mixed:=by kernel_rfl
 f7:=⟨Tryz.f101.name,by kernel_rfl,Tryz.func101.trans (congrArg some (by kernel_rfl))⟩
 f10:=⟨Tryz.f173.name,by kernel_rfl,Tryz.func173.trans (congrArg some (by kernel_rfl))⟩
 t0:=Tryz.underlying0
 a0:=Tryz.isAgg0
 z0:=Tryz.sizeOf0
 v0:=Tryz.zeroValue0
 t4:=Tryz.underlying4
 a4:=Tryz.isAgg4
 z4:=Tryz.sizeOf4
 v4:=Tryz.zeroValue4
 t23:=Tryz.underlying90
 a23:=Tryz.isAgg90
 z23:=Tryz.sizeOf90
 v23:=Tryz.zeroValue90
 t26:=Tryz.underlying3
 a26:=Tryz.isAgg3
 z26:=Tryz.sizeOf3
 v26:=Tryz.zeroValue3
 t27:=Tryz.underlying164
 a27:=Tryz.isAgg164
 z27:=Tryz.sizeOf164
 v27:=Tryz.zeroValue164
 t28:=Tryz.underlying165
 a28:=Tryz.isAgg165
 z28:=Tryz.sizeOf165
 v28:=Tryz.zeroValue165
 t33:=Tryz.underlying126
 a33:=Tryz.isAgg126
 z33:=Tryz.sizeOf126
 v33:=Tryz.zeroValue126
}
def sortedA14_ren:Go.Shelf.Ren:=⟨fun | 6=>100 | 8=>171 | 9=>172 | 11=>232 | 13=>222 | 12=>233 | 23=>263 | 24=>264 | 14=>270 | 15=>271 | 16=>272 | 17=>273 | 18=>274 | 19=>275 | 20=>276 | 21=>277 | 22=>278 | 25=>290 | 26=>291 | 27=>292 | 28=>293 | 29=>294 | 30=>295 | 31=>306 | n=>n,fun | 26=>3 | 28=>165 | 24=>23 | 0=>0 | 3=>3 | 37=>277 | 48=>193 | 50=>177 | 4=>4 | 40=>329 | 39=>328 | 45=>252 | 5=>5 | 9=>9 | 51=>345 | 55=>349 | 57=>356 | 58=>147 | 33=>126 | n=>n,fun n=>n⟩
theorem sortedA14:Go.Proofs.SlLaysZI.n6 Tryz.prog sortedA14_ren:={
 mixed:=by kernel_rfl
 f6:=⟨Tryz.f100.name,by kernel_rfl,Tryz.func100.trans (congrArg some (by kernel_rfl))⟩
 f8:=⟨Tryz.f171.name,by kernel_rfl,Tryz.func171.trans (congrArg some (by kernel_rfl))⟩
 f11:=⟨Tryz.f232.name,by kernel_rfl,Tryz.func232.trans (congrArg some (by kernel_rfl))⟩
 t0:=Tryz.underlying0
 a0:=Tryz.isAgg0
 z0:=Tryz.sizeOf0
 v0:=Tryz.zeroValue0
 t24:=Tryz.underlying23
 a24:=Tryz.isAgg23
 z24:=Tryz.sizeOf23
 v24:=Tryz.zeroValue23
 t26:=Tryz.underlying3
 a26:=Tryz.isAgg3
 z26:=Tryz.sizeOf3
 v26:=Tryz.zeroValue3
 t28:=Tryz.underlying165
 a28:=Tryz.isAgg165
 z28:=Tryz.sizeOf165
 v28:=Tryz.zeroValue165
 i26:=by kernel_rfl
}
end Go.Proofs.YtkkenfhlgpjmjaaGreatDoor
namespace Go.Proofs.YtkkenfhlgpjmjaaGreatDoor
set_option maxRecDepth 100000
open Go.RowKit
set_option linter.unusedVariables false
attribute [local go_sem] ba_size
theorem ans14 {a b:Bool} (h:a=b):Ending.returned (.bool a)=Ending.returned (.bool b):=by rw [h]
theorem pwithin14 (n a b:Int) (w:World):Calls Tryz.prog 58 #[.int .i64 n,.int .i64 a,.int .i64 b] w fun e w'=>e=.returned (.bool (decide (a≤n∧n≤b)))∧Below w.heap.size w w':=by
 by_cases h1:a≤n
 ·by_cases h2:n≤b
  ·rw [decide_eq_true (show a≤n∧n≤b from ⟨h1,h2⟩)]
   go_enter Tryz.func58,Tryz.ntmps58
   go_wp2_with fail
   go_ret
   exact ⟨rfl,Below.refl _ _⟩
  ·rw [decide_eq_false (show ¬ (a≤n∧n≤b) from fun h=>h2 h.2)]
   go_enter Tryz.func58,Tryz.ntmps58
   go_wp2_with fail
   go_ret
   exact ⟨rfl,Below.refl _ _⟩
 ·rw [decide_eq_false (show ¬ (a≤n∧n≤b) from fun h=>h1 h.1)]
  go_enter Tryz.func58,Tryz.ntmps58
  go_wp2_with fail
  go_ret
  exact ⟨rfl,Below.refl _ _⟩
theorem pisTxn14 (n:Int) (w:World):Calls Tryz.prog 119 #[.int .i64 n] w fun e w'=>e=.returned (.bool (decide (txM n)))∧Below w.heap.size w w':=by
 go_enter Tryz.func119,Tryz.ntmps119
 go_wp2_with fail
 refine (pwithin14 n 1 32 w).mono ?_
 rintro e w1 ⟨rfl,b1⟩
 go_wp2_with fail
 go_ret
 exact ⟨ans14 (show (decide (1≤n)&&decide (n≤32))=_ by rw [Bool.decide_and]),b1⟩
theorem pisPlace14 (n:Int) (w:World):Calls Tryz.prog 120 #[.int .i64 n] w fun e w'=>e=.returned (.bool (decide (plM n)))∧Below w.heap.size w w':=by
 go_enter Tryz.func120,Tryz.ntmps120
 go_wp2_with fail
 refine (pwithin14 n 0 255 w).mono ?_
 rintro e w1 ⟨rfl,b1⟩
 go_wp2_with fail
 go_ret
 exact ⟨ans14 (show (decide (0≤n)&&decide (n≤255))=_ by rw [Bool.decide_and]),b1⟩
theorem pisSum14 (s:List UInt8) (w:World):Calls Tryz.prog 59 #[.string ⟨s.toArray⟩] w fun e w'=>e=.returned (.bool (decide (s.length=32)))∧Below w.heap.size w w':=by
 by_cases h1:s.length=32
 ·rw [decide_eq_true h1]
  have h2:((s.length:Int)==32)=true:=by simp;omega
  go_enter Tryz.func59,Tryz.ntmps59
  go_wp2_with fail
  go_ret
  exact ⟨rfl,Below.refl _ _⟩
 ·rw [decide_eq_false h1]
  have h2:((s.length:Int)==32)=false:=by simp;omega
  go_enter Tryz.func59,Tryz.ntmps59
  go_wp2_with fail
  go_ret
  exact ⟨rfl,Below.refl _ _⟩
theorem all_next14 {α:Type} {l:List α} {p:α→Prop} {k:Nat} (hk:k < l.length) (h:∀ x∈l.take k,p x) (hx:p l[k]):∀ x∈l.take (k+1),p x:=by
 intro x hm
 rw [List.take_succ_eq_append_getElem hk] at hm
 rcases List.mem_append.1 hm with h1 | h1
 ·exact h x h1
 ·simp at h1;subst h1;exact hx
set_option maxHeartbeats 2000000 in
theorem pedgeMay14 (e0 e1 e2 e3 e4:Int) (w:World):Calls Tryz.prog 122 #[.agg #[.int .i64 e0,.int .i64 e1,.int .i64 e2,.int .i64 e3,.int .i64 e4]] w fun e w'=>e=.returned (.bool (decide (edM (e0,e1,e2,e3,e4))))∧Below w.heap.size w w':=by
 have B0:=(Below.refl w.heap.size w).alloc (Nat.le_refl _) (.cells #[.int .i64 e0,.int .i64 e1,.int .i64 e2,.int .i64 e3,.int .i64 e4] 71)
 have X0:=SBox.new w 71 #[.int .i64 e0,.int .i64 e1,.int .i64 e2,.int .i64 e3,.int .i64 e4]
 have c0_0:(w.alloc (.cells #[.int .i64 e0,.int .i64 e1,.int .i64 e2,.int .i64 e3,.int .i64 e4] 71)).cell? ⟨w.heap.size,0,none⟩=some (.int .i64 e0):=X0.cell 0 _ rfl
 obtain ⟨ans,hans⟩:∃ b,decide (edM (e0,e1,e2,e3,e4))=b:=⟨_,rfl⟩
 rw [hans]
 have HA:Hid (decide (edM (e0,e1,e2,e3,e4))=ans):=hans
 clear hans
 go_enter Tryz.func122,Tryz.ntmps122
 go_wp2_with fail
 have C1:=fun (W:World) (hW:Below w.heap.size w W)=>pwithin14 e0 1 3 W
 by_cases h1:1≤e0∧e0≤3
 case neg =>
  have HN:Hid (¬ (edM (e0,e1,e2,e3,e4))):=fun h=>h1 (h.1)
  simp only [decide_eq_false h1] at C1
  clear h1
  refine (C1 _ (by assumption)).mono ?_
  rintro e w1 ⟨rfl,b1⟩
  have B1:=bel_trans B0 b1
  go_wp2_with fail
  go_ret
  exact ⟨ans14 ((decide_eq_false HN.out).symm.trans HA.out),B1⟩
 have K1:Hid (1≤e0∧e0≤3):=h1
 simp only [decide_eq_true h1] at C1
 clear h1
 refine (C1 _ (by assumption)).mono ?_
 rintro e w1 ⟨rfl,b1⟩
 have B1:=bel_trans B0 b1
 have X1:=X0.below b1
 have c1_1:w1.cell? ⟨w.heap.size,1,none⟩=some (.int .i64 e1):=X1.cell 1 _ rfl
 clear X0 B0 b1 C1
 go_wp2_with fail
 have C2:=fun (W:World) (hW:Below w.heap.size w W)=>pisTxn14 e1 W
 by_cases h2:txM e1
 case neg =>
  have HN:Hid (¬ (edM (e0,e1,e2,e3,e4))):=fun h=>h2 (h.2.1.1)
  simp only [decide_eq_false h2] at C2
  clear h2
  refine (C2 _ (by assumption)).mono ?_
  rintro e w2 ⟨rfl,b2⟩
  have B2:=bel_trans B1 b2
  go_wp2_with fail
  go_ret
  exact ⟨ans14 ((decide_eq_false HN.out).symm.trans HA.out),B2⟩
 have K2:Hid (txM e1):=h2
 simp only [decide_eq_true h2] at C2
 clear h2
 refine (C2 _ (by assumption)).mono ?_
 rintro e w2 ⟨rfl,b2⟩
 have B2:=bel_trans B1 b2
 have X2:=X1.below b2
 have c2_2:w2.cell? ⟨w.heap.size,2,none⟩=some (.int .i64 e2):=X2.cell 2 _ rfl
 clear X1 B1 b2 C2
 go_wp2_with fail
 have C3:=fun (W:World) (hW:Below w.heap.size w W)=>pisTxn14 e2 W
 by_cases h3:txM e2
 case neg =>
  have HN:Hid (¬ (edM (e0,e1,e2,e3,e4))):=fun h=>h3 (h.2.1.2)
  simp only [decide_eq_false h3] at C3
  clear h3
  refine (C3 _ (by assumption)).mono ?_
  rintro e w3 ⟨rfl,b3⟩
  have B3:=bel_trans B2 b3
  go_wp2_with fail
  go_ret
  exact ⟨ans14 ((decide_eq_false HN.out).symm.trans HA.out),B3⟩
 have K3:Hid (txM e2):=h3
 simp only [decide_eq_true h3] at C3
 clear h3
 refine (C3 _ (by assumption)).mono ?_
 rintro e w3 ⟨rfl,b3⟩
 have B3:=bel_trans B2 b3
 have X3:=X2.below b3
 have c3_3:w3.cell? ⟨w.heap.size,3,none⟩=some (.int .i64 e3):=X3.cell 3 _ rfl
 clear X2 B2 b3 C3
 go_wp2_with fail
 have C4:=fun (W:World) (hW:Below w.heap.size w W)=>pisPlace14 e3 W
 by_cases h4:plM e3
 case neg =>
  have HN:Hid (¬ (edM (e0,e1,e2,e3,e4))):=fun h=>h4 (h.2.2.1)
  simp only [decide_eq_false h4] at C4
  clear h4
  refine (C4 _ (by assumption)).mono ?_
  rintro e w4 ⟨rfl,b4⟩
  have B4:=bel_trans B3 b4
  go_wp2_with fail
  go_ret
  exact ⟨ans14 ((decide_eq_false HN.out).symm.trans HA.out),B4⟩
 have K4:Hid (plM e3):=h4
 simp only [decide_eq_true h4] at C4
 clear h4
 refine (C4 _ (by assumption)).mono ?_
 rintro e w4 ⟨rfl,b4⟩
 have B4:=bel_trans B3 b4
 have X4:=X3.below b4
 have c4_4:w4.cell? ⟨w.heap.size,4,none⟩=some (.int .i64 e4):=X4.cell 4 _ rfl
 clear X3 B3 b4 C4
 go_wp2_with fail
 have C5:=fun (W:World) (hW:Below w.heap.size w W)=>pisPlace14 e4 W
 by_cases h5:plM e4
 case neg =>
  have HN:Hid (¬ (edM (e0,e1,e2,e3,e4))):=fun h=>h5 (h.2.2.2)
  simp only [decide_eq_false h5] at C5
  clear h5
  refine (C5 _ (by assumption)).mono ?_
  rintro e w5 ⟨rfl,b5⟩
  have B5:=bel_trans B4 b5
  go_wp2_with fail
  go_ret
  exact ⟨ans14 ((decide_eq_false HN.out).symm.trans HA.out),B5⟩
 have K5:Hid (plM e4):=h5
 simp only [decide_eq_true h5] at C5
 clear h5
 refine (C5 _ (by assumption)).mono ?_
 rintro e w5 ⟨rfl,b5⟩
 have B5:=bel_trans B4 b5
 have X5:=X4.below b5
 clear X4 B4 b5 C5
 go_wp2_with fail
 go_ret
 exact ⟨ans14 ((decide_eq_true (show edM (e0,e1,e2,e3,e4) from ⟨K1.out,⟨K2.out,K3.out⟩,K4.out,K5.out⟩)).symm.trans HA.out),B5⟩
set_option maxHeartbeats 2000000 in
theorem pallI14 (m:Nat) (l:List Int) (v:Value) (w:World) (hT:IsInts w v l):Calls Tryz.prog 118 #[v,.int .i64 m,.func (.func 119) #[] #[]] w fun e w'=>e=.returned (.bool (decide (l.length≤m∧∀ x∈l,txM x)))∧Below w.heap.size w w':=by
 obtain ⟨a,cap,rfl,h1,h2,h3,HC⟩:=hT.some_at
 obtain ⟨n,hn⟩:∃ n,l.length=n:=⟨_,rfl⟩
 have HN:Hid (l.length=n):=hn
 rw [hn] at h1 h3 ⊢
 clear hn
 by_cases hbig:n≤m
 case neg =>
  rw [decide_eq_false (show ¬ (n≤m∧∀ x∈l,txM x) from fun h=>hbig h.1)]
  have j:(m:Int) < (n:Int):=by omega
  go_enter Tryz.func118,Tryz.ntmps118
  go_wp2_with fail
  go_ret
  exact ⟨rfl,Below.refl _ _⟩
 have j:¬ (m:Int) < (n:Int):=by omega
 obtain ⟨ans,hans⟩:∃ b,decide (n≤m∧∀ x∈l,txM x)=b:=⟨_,rfl⟩
 rw [hans]
 have HQ:Hid (decide (n≤m∧∀ x∈l,txM x)=ans):=hans
 clear hans
 go_enter Tryz.func118,Tryz.ntmps118
 go_wp2_with fail
 go_loopw [15] (fun i wr=>∃ (k:Nat),k≤n∧i=.int .i64 k∧Hid (∀ x∈l.take k,txM x)∧Below w.heap.size w wr) (fun i _=>n - (intOf i).toNat)
 case atStart=>exact ⟨0,Nat.zero_le _,rfl,(by intro x hx;simp at hx),Below.refl _ _⟩
 case round =>
  obtain ⟨k,hk,rfl,HA,hbw⟩:=hrel
  by_cases hlt:k < n
  ·have hk1:k < l.length:=by have:=HN.out;omega
   obtain ⟨bb,off,rfl,hblt,hcell⟩:=HC.out k hk1
   have q0:=(hbw.cell (p:=⟨bb,off+k*1+0,none⟩) hblt).trans (hcell 0 _ rfl)
   simp only [Nat.mul_one,Nat.add_zero] at q0
   obtain ⟨y,hy⟩:∃ y,l[k]=y:=⟨_,rfl⟩
   have HY:Hid (l[k]=y):=hy
   rw [hy] at q0
   clear hcell hy
   have C:=fun W=>pisTxn14 y W
   by_cases hx:txM y
   case neg =>
    have HE:Hid (¬ (n≤m∧∀ x∈l,txM x)):=fun h=>hx (by have h9:=h.2 l[k] (List.getElem_mem hk1);rw [← HY.out];exact h9)
    simp only [decide_eq_false hx] at C
    clear hx
    go_wp2_with fail
    refine (C _).mono ?_
    rintro e w3 ⟨rfl,b3⟩
    go_wp2_with fail
    go_ret
    exact ⟨ans14 ((decide_eq_false HE.out).symm.trans HQ.out),bel_trans hbw b3⟩
   have HA':Hid (∀ x∈l.take (k+1),txM x):=all_next14 hk1 HA.out (by rw [HY.out];exact hx)
   simp only [decide_eq_true hx] at C
   clear hx
   go_wp2_with fail
   refine (C _).mono ?_
   rintro e w3 ⟨rfl,b3⟩
   go_wp2_with fail
   go_roundw
   case rel=>exact ⟨k+1,by omega,by first | go_num | simp,HA',bel_trans hbw b3⟩
   case measure=>simp [intOf];omega
  ·obtain rfl:k=n:=by omega
   have HE:Hid (k≤m∧∀ x∈l,txM x):=⟨hbig,by have:=HA.out;rwa [List.take_of_length_le (by have:=HN.out;omega)] at this⟩
   go_wp2_with fail
   go_ret
   exact ⟨ans14 ((decide_eq_true HE.out).symm.trans HQ.out),hbw⟩
set_option maxHeartbeats 2000000 in
theorem pallT14 (m:Nat) (l:List (List UInt8)) (v:Value) (w:World) (hT:IsTxt w v l):Calls Tryz.prog 124 #[v,.int .i64 m,.func (.func 59) #[] #[]] w fun e w'=>e=.returned (.bool (decide (l.length≤m∧∀ x∈l,List.length x=32)))∧Below w.heap.size w w':=by
 obtain ⟨a,cap,rfl,h1,h2,h3,HC⟩:=hT.some_at
 obtain ⟨n,hn⟩:∃ n,l.length=n:=⟨_,rfl⟩
 have HN:Hid (l.length=n):=hn
 rw [hn] at h1 h3 ⊢
 clear hn
 by_cases hbig:n≤m
 case neg =>
  rw [decide_eq_false (show ¬ (n≤m∧∀ x∈l,List.length x=32) from fun h=>hbig h.1)]
  have j:(m:Int) < (n:Int):=by omega
  go_enter Tryz.func124,Tryz.ntmps124
  go_wp2_with fail
  go_ret
  exact ⟨rfl,Below.refl _ _⟩
 have j:¬ (m:Int) < (n:Int):=by omega
 obtain ⟨ans,hans⟩:∃ b,decide (n≤m∧∀ x∈l,List.length x=32)=b:=⟨_,rfl⟩
 rw [hans]
 have HQ:Hid (decide (n≤m∧∀ x∈l,List.length x=32)=ans):=hans
 clear hans
 go_enter Tryz.func124,Tryz.ntmps124
 go_wp2_with fail
 go_loopw [15] (fun i wr=>∃ (k:Nat),k≤n∧i=.int .i64 k∧Hid (∀ x∈l.take k,List.length x=32)∧Below w.heap.size w wr) (fun i _=>n - (intOf i).toNat)
 case atStart=>exact ⟨0,Nat.zero_le _,rfl,(by intro x hx;simp at hx),Below.refl _ _⟩
 case round =>
  obtain ⟨k,hk,rfl,HA,hbw⟩:=hrel
  by_cases hlt:k < n
  ·have hk1:k < l.length:=by have:=HN.out;omega
   obtain ⟨bb,off,rfl,hblt,hcell⟩:=HC.out k hk1
   have q0:=(hbw.cell (p:=⟨bb,off+k,none⟩) hblt).trans hcell
   obtain ⟨y,hy⟩:∃ y,l[k]=y:=⟨_,rfl⟩
   have HY:Hid (l[k]=y):=hy
   rw [hy] at q0
   clear hcell hy
   have C:=fun W=>pisSum14 y W
   by_cases hx:y.length=32
   case neg =>
    have HE:Hid (¬ (n≤m∧∀ x∈l,List.length x=32)):=fun h=>hx (by have h9:=h.2 l[k] (List.getElem_mem hk1);rw [← HY.out];exact h9)
    simp only [decide_eq_false hx] at C
    clear hx
    go_wp2_with fail
    refine (C _).mono ?_
    rintro e w3 ⟨rfl,b3⟩
    go_wp2_with fail
    go_ret
    exact ⟨ans14 ((decide_eq_false HE.out).symm.trans HQ.out),bel_trans hbw b3⟩
   have HA':Hid (∀ x∈l.take (k+1),List.length x=32):=all_next14 hk1 HA.out (by rw [HY.out];exact hx)
   simp only [decide_eq_true hx] at C
   clear hx
   go_wp2_with fail
   refine (C _).mono ?_
   rintro e w3 ⟨rfl,b3⟩
   go_wp2_with fail
   go_roundw
   case rel=>exact ⟨k+1,by omega,by first | go_num | simp,HA',bel_trans hbw b3⟩
   case measure=>simp [intOf];omega
  ·obtain rfl:k=n:=by omega
   have HE:Hid (k≤m∧∀ x∈l,List.length x=32):=⟨hbig,by have:=HA.out;rwa [List.take_of_length_le (by have:=HN.out;omega)] at this⟩
   go_wp2_with fail
   go_ret
   exact ⟨ans14 ((decide_eq_true HE.out).symm.trans HQ.out),hbw⟩
set_option maxHeartbeats 2000000 in
theorem pallE14 (m:Nat) (l:List Ed) (v:Value) (w:World) (hT:IsEds w v l):Calls Tryz.prog 121 #[v,.int .i64 m,.func (.func 122) #[] #[]] w fun e w'=>e=.returned (.bool (decide (l.length≤m∧∀ x∈l,edM x)))∧Below w.heap.size w w':=by
 obtain ⟨a,cap,rfl,h1,h2,h3,HC⟩:=hT.some_at
 obtain ⟨n,hn⟩:∃ n,l.length=n:=⟨_,rfl⟩
 have HN:Hid (l.length=n):=hn
 rw [hn] at h1 h3 ⊢
 clear hn
 by_cases hbig:n≤m
 case neg =>
  rw [decide_eq_false (show ¬ (n≤m∧∀ x∈l,edM x) from fun h=>hbig h.1)]
  have j:(m:Int) < (n:Int):=by omega
  go_enter Tryz.func121,Tryz.ntmps121
  go_wp2_with fail
  go_ret
  exact ⟨rfl,Below.refl _ _⟩
 have j:¬ (m:Int) < (n:Int):=by omega
 obtain ⟨ans,hans⟩:∃ b,decide (n≤m∧∀ x∈l,edM x)=b:=⟨_,rfl⟩
 rw [hans]
 have HQ:Hid (decide (n≤m∧∀ x∈l,edM x)=ans):=hans
 clear hans
 go_enter Tryz.func121,Tryz.ntmps121
 go_wp2_with fail
 go_loopw [15] (fun i wr=>∃ (k:Nat),k≤n∧i=.int .i64 k∧Hid (∀ x∈l.take k,edM x)∧Below w.heap.size w wr) (fun i _=>n - (intOf i).toNat)
 case atStart=>exact ⟨0,Nat.zero_le _,rfl,(by intro x hx;simp at hx),Below.refl _ _⟩
 case round =>
  obtain ⟨k,hk,rfl,HA,hbw⟩:=hrel
  by_cases hlt:k < n
  ·have hk1:k < l.length:=by have:=HN.out;omega
   obtain ⟨bb,off,rfl,hblt,hcell⟩:=HC.out k hk1
   have q0:=(hbw.cell (p:=⟨bb,off+k*5,none⟩) hblt).trans (hcell 0 _ rfl)
   have q1:=(hbw.cell (p:=⟨bb,off+k*5+1,none⟩) hblt).trans (hcell 1 _ rfl)
   have q2:=(hbw.cell (p:=⟨bb,off+k*5+2,none⟩) hblt).trans (hcell 2 _ rfl)
   have q3:=(hbw.cell (p:=⟨bb,off+k*5+3,none⟩) hblt).trans (hcell 3 _ rfl)
   have q4:=(hbw.cell (p:=⟨bb,off+k*5+4,none⟩) hblt).trans (hcell 4 _ rfl)
   obtain ⟨y,hy⟩:∃ y,l[k]=y:=⟨_,rfl⟩
   have HY:Hid (l[k]=y):=hy
   rw [hy] at q0 q1 q2 q3 q4
   clear hcell hy
   obtain ⟨e0,e1,e2,e3,e4⟩:=y
   simp only at q0 q1 q2 q3 q4
   have C:=fun W=>pedgeMay14 e0 e1 e2 e3 e4 W
   by_cases hx:edM (e0,e1,e2,e3,e4)
   case neg =>
    have HE:Hid (¬ (n≤m∧∀ x∈l,edM x)):=fun h=>hx (by have h9:=h.2 l[k] (List.getElem_mem hk1);rw [← HY.out];exact h9)
    simp only [decide_eq_false hx] at C
    clear hx
    go_wp2_with fail
    refine (C _).mono ?_
    rintro e w3 ⟨rfl,b3⟩
    go_wp2_with fail
    go_ret
    exact ⟨ans14 ((decide_eq_false HE.out).symm.trans HQ.out),bel_trans (hbw.alloc hbw.size _) b3⟩
   have HA':Hid (∀ x∈l.take (k+1),edM x):=all_next14 hk1 HA.out (by rw [HY.out];exact hx)
   simp only [decide_eq_true hx] at C
   clear hx
   go_wp2_with fail
   refine (C _).mono ?_
   rintro e w3 ⟨rfl,b3⟩
   go_wp2_with fail
   go_roundw
   case rel=>exact ⟨k+1,by omega,by first | go_num | simp,HA',bel_trans (hbw.alloc hbw.size _) b3⟩
   case measure=>simp [intOf];omega
  ·obtain rfl:k=n:=by omega
   have HE:Hid (k≤m∧∀ x∈l,edM x):=⟨hbig,by have:=HA.out;rwa [List.take_of_length_le (by have:=HN.out;omega)] at this⟩
   go_wp2_with fail
   go_ret
   exact ⟨ans14 ((decide_eq_true HE.out).symm.trans HQ.out),hbw⟩
set_option maxHeartbeats 2000000 in
theorem pproofMay14 (p0 y0 y1:Int) (y2 y3:List UInt8) (ua:Option Addr) (uc:Nat) (l:List (List UInt8)) (w:World) (hT:IsTxt w (.slice ua l.length uc) l):Calls Tryz.prog 62 #[.agg #[.int .i64 p0,.int .i64 y0,.int .i64 y1,.string ⟨y2.toArray⟩,.string ⟨y3.toArray⟩,.slice ua l.length uc]] w fun e w'=>e=.returned (.bool (decide (pfM (p0,(y0,y1,y2,y3),l))))∧Below w.heap.size w w':=by
 have B0:=(Below.refl w.heap.size w).alloc (Nat.le_refl _) (.cells #[.int .i64 p0,.int .i64 y0,.int .i64 y1,.string ⟨y2.toArray⟩,.string ⟨y3.toArray⟩,.slice ua l.length uc] 66)
 have X0:=SBox.new w 66 #[.int .i64 p0,.int .i64 y0,.int .i64 y1,.string ⟨y2.toArray⟩,.string ⟨y3.toArray⟩,.slice ua l.length uc]
 have c0_0:(w.alloc (.cells #[.int .i64 p0,.int .i64 y0,.int .i64 y1,.string ⟨y2.toArray⟩,.string ⟨y3.toArray⟩,.slice ua l.length uc] 66)).cell? ⟨w.heap.size,0,none⟩=some (.int .i64 p0):=X0.cell 0 _ rfl
 obtain ⟨ans,hans⟩:∃ b,decide (pfM (p0,(y0,y1,y2,y3),l))=b:=⟨_,rfl⟩
 rw [hans]
 have HA:Hid (decide (pfM (p0,(y0,y1,y2,y3),l))=ans):=hans
 clear hans
 go_enter Tryz.func62,Tryz.ntmps62
 go_wp2_with fail
 have C1:=fun (W:World) (hW:Below w.heap.size w W)=>pisPlace14 p0 W
 by_cases h1:plM p0
 case neg =>
  have HN:Hid (¬ (pfM (p0,(y0,y1,y2,y3),l))):=fun h=>h1 (h.1.1)
  simp only [decide_eq_false h1] at C1
  clear h1
  refine (C1 _ (by assumption)).mono ?_
  rintro e w1 ⟨rfl,b1⟩
  have B1:=bel_trans B0 b1
  go_wp2_with fail
  go_ret
  exact ⟨ans14 ((decide_eq_false HN.out).symm.trans HA.out),B1⟩
 have K1:Hid (plM p0):=h1
 simp only [decide_eq_true h1] at C1
 clear h1
 refine (C1 _ (by assumption)).mono ?_
 rintro e w1 ⟨rfl,b1⟩
 have B1:=bel_trans B0 b1
 have X1:=X0.below b1
 have c1_1:w1.cell? ⟨w.heap.size,1,none⟩=some (.int .i64 y0):=X1.cell 1 _ rfl
 have c1_2:w1.cell? ⟨w.heap.size,2,none⟩=some (.int .i64 y1):=X1.cell 2 _ rfl
 have c1_3:w1.cell? ⟨w.heap.size,3,none⟩=some (.string ⟨y2.toArray⟩):=X1.cell 3 _ rfl
 have c1_4:w1.cell? ⟨w.heap.size,4,none⟩=some (.string ⟨y3.toArray⟩):=X1.cell 4 _ rfl
 clear X0 B0 b1 C1
 go_wp2_with fail
 have C2:=fun (W:World) (hW:Below w.heap.size w W)=>pmay_any y0 y1 y2 y3 W
 by_cases h2:mayE (y0,y1,y2,y3)
 case neg =>
  have HN:Hid (¬ (pfM (p0,(y0,y1,y2,y3),l))):=fun h=>h2 (h.1.2)
  simp only [decide_eq_false h2] at C2
  clear h2
  refine (C2 _ (by assumption)).mono ?_
  rintro e w2 ⟨rfl,b2⟩
  have B2:=bel_trans B1 b2
  go_wp2_with fail
  go_ret
  exact ⟨ans14 ((decide_eq_false HN.out).symm.trans HA.out),B2⟩
 have K2:Hid (mayE (y0,y1,y2,y3)):=h2
 simp only [decide_eq_true h2] at C2
 clear h2
 refine (C2 _ (by assumption)).mono ?_
 rintro e w2 ⟨rfl,b2⟩
 have B2:=bel_trans B1 b2
 have X2:=X1.below b2
 have c2_5:w2.cell? ⟨w.heap.size,5,none⟩=some (.slice ua l.length uc):=X2.cell 5 _ rfl
 clear X1 B1 b2 C2
 go_wp2_with fail
 have C3:=fun (W:World) (hW:Below w.heap.size w W)=>pallT14 12 l _ W (hT.below hW)
 by_cases h3:l.length≤12∧∀ x∈l,List.length x=32
 case neg =>
  have HN:Hid (¬ (pfM (p0,(y0,y1,y2,y3),l))):=fun h=>h3 (⟨h.2.1,h.2.2⟩)
  simp only [decide_eq_false h3] at C3
  clear h3
  refine (C3 _ (by assumption)).mono ?_
  rintro e w3 ⟨rfl,b3⟩
  have B3:=bel_trans B2 b3
  go_wp2_with fail
  go_ret
  exact ⟨ans14 ((decide_eq_false HN.out).symm.trans HA.out),B3⟩
 have K3:Hid (l.length≤12∧∀ x∈l,List.length x=32):=h3
 simp only [decide_eq_true h3] at C3
 clear h3
 refine (C3 _ (by assumption)).mono ?_
 rintro e w3 ⟨rfl,b3⟩
 have B3:=bel_trans B2 b3
 have X3:=X2.below b3
 clear X2 B2 b3 C3
 go_wp2_with fail
 go_ret
 exact ⟨ans14 ((decide_eq_true (show pfM (p0,(y0,y1,y2,y3),l) from ⟨⟨K1.out,K2.out⟩,K3.out⟩)).symm.trans HA.out),B3⟩
set_option maxHeartbeats 2000000 in
theorem pallP14 (m:Nat) (l:List Pf) (v:Value) (w:World) (hT:IsPfs w v l):Calls Tryz.prog 61 #[v,.int .i64 m,.func (.func 62) #[] #[]] w fun e w'=>e=.returned (.bool (decide (l.length≤m∧∀ x∈l,pfM x)))∧Below w.heap.size w w':=by
 obtain ⟨a,cap,rfl,h1,h2,h3,HC⟩:=hT.reads
 obtain ⟨n,hn⟩:∃ n,l.length=n:=⟨_,rfl⟩
 have HN:Hid (l.length=n):=hn
 rw [hn] at h1 h3 ⊢
 clear hn
 by_cases hbig:n≤m
 case neg =>
  rw [decide_eq_false (show ¬ (n≤m∧∀ x∈l,pfM x) from fun h=>hbig h.1)]
  have j:(m:Int) < (n:Int):=by omega
  go_enter Tryz.func61,Tryz.ntmps61
  go_wp2_with fail
  go_ret
  exact ⟨rfl,Below.refl _ _⟩
 have j:¬ (m:Int) < (n:Int):=by omega
 obtain ⟨ans,hans⟩:∃ b,decide (n≤m∧∀ x∈l,pfM x)=b:=⟨_,rfl⟩
 rw [hans]
 have HQ:Hid (decide (n≤m∧∀ x∈l,pfM x)=ans):=hans
 clear hans
 go_enter Tryz.func61,Tryz.ntmps61
 go_wp2_with fail
 go_loopw [15] (fun i wr=>∃ (k:Nat),k≤n∧i=.int .i64 k∧Hid (∀ x∈l.take k,pfM x)∧Below w.heap.size w wr) (fun i _=>n - (intOf i).toNat)
 case atStart=>exact ⟨0,Nat.zero_le _,rfl,(by intro x hx;simp at hx),Below.refl _ _⟩
 case round =>
  obtain ⟨k,hk,rfl,HA,hbw⟩:=hrel
  by_cases hlt:k < n
  ·have hk1:k < l.length:=by have:=HN.out;omega
   obtain ⟨bb,off,rfl,u,hu,hcell⟩:=HC.out k hk1
   obtain ⟨q0,q1,q2,q3,q4,q5⟩:=hcell wr hbw
   obtain ⟨y,hy⟩:∃ y,l[k]=y:=⟨_,rfl⟩
   have HY:Hid (l[k]=y):=hy
   rw [hy] at q0 q1 q2 q3 q4 hu
   clear hcell hy
   obtain ⟨p0,⟨y0,y1,y2,y3⟩,yl⟩:=y
   simp only at q0 q1 q2 q3 q4 hu
   obtain ⟨ua,uc,rfl,_⟩:=hu.len
   have C:=fun (W:World) (hW:Below w.heap.size w W)=>pproofMay14 p0 y0 y1 y2 y3 ua uc yl W (hu.below hW)
   by_cases hx:pfM (p0,(y0,y1,y2,y3),yl)
   case neg =>
    have HE:Hid (¬ (n≤m∧∀ x∈l,pfM x)):=fun h=>hx (by have h9:=h.2 l[k] (List.getElem_mem hk1);rw [← HY.out];exact h9)
    simp only [decide_eq_false hx] at C
    clear hx
    go_wp2_with fail
    refine (C _ (hbw.alloc hbw.size _)).mono ?_
    rintro e w3 ⟨rfl,b3⟩
    go_wp2_with fail
    go_ret
    exact ⟨ans14 ((decide_eq_false HE.out).symm.trans HQ.out),bel_trans (hbw.alloc hbw.size _) b3⟩
   have HA':Hid (∀ x∈l.take (k+1),pfM x):=all_next14 hk1 HA.out (by rw [HY.out];exact hx)
   simp only [decide_eq_true hx] at C
   clear hx
   go_wp2_with fail
   refine (C _ (hbw.alloc hbw.size _)).mono ?_
   rintro e w3 ⟨rfl,b3⟩
   go_wp2_with fail
   go_roundw
   case rel=>exact ⟨k+1,by omega,by first | go_num | simp,HA',bel_trans (hbw.alloc hbw.size _) b3⟩
   case measure=>simp [intOf];omega
  ·obtain rfl:k=n:=by omega
   have HE:Hid (k≤m∧∀ x∈l,pfM x):=⟨hbig,by have:=HA.out;rwa [List.take_of_length_le (by have:=HN.out;omega)] at this⟩
   go_wp2_with fail
   go_ret
   exact ⟨ans14 ((decide_eq_true HE.out).symm.trans HQ.out),hbw⟩
set_option maxHeartbeats 4000000 in
theorem pverdictMay14 (lv k i j:Int) (ac:Bool) (oa:Option Addr) (oc:Nat) (o:List Int) (ra:Option Addr) (rc:Nat) (r:List Ed) (w:World) (hO:IsInts w (.slice oa o.length oc) o) (hR:IsEds w (.slice ra r.length rc) r):Calls Tryz.prog 60 #[.agg #[.int .i64 lv,.bool ac,.slice oa o.length oc,.int .i64 k,.int .i64 i,.int .i64 j,.slice ra r.length rc]] w fun e w'=>e=.returned (.bool (decide (vdM (lv,ac,o,(k,i,j),r))))∧Below w.heap.size w w':=by
 have B0:=(Below.refl w.heap.size w).alloc (Nat.le_refl _) (.cells #[.int .i64 lv,.bool ac,.slice oa o.length oc,.int .i64 k,.int .i64 i,.int .i64 j,.slice ra r.length rc] 28)
 have X0:=SBox.new w 28 #[.int .i64 lv,.bool ac,.slice oa o.length oc,.int .i64 k,.int .i64 i,.int .i64 j,.slice ra r.length rc]
 obtain ⟨ans,hans⟩:∃ b,decide (vdM (lv,ac,o,(k,i,j),r))=b:=⟨_,rfl⟩
 rw [hans]
 have HA:Hid (decide (vdM (lv,ac,o,(k,i,j),r))=ans):=hans
 clear hans
 have c0_0:(w.alloc (.cells #[.int .i64 lv,.bool ac,.slice oa o.length oc,.int .i64 k,.int .i64 i,.int .i64 j,.slice ra r.length rc] 28)).cell? ⟨w.heap.size,0,none⟩=some (.int .i64 lv):=X0.cell 0 _ rfl
 have c0_2:(w.alloc (.cells #[.int .i64 lv,.bool ac,.slice oa o.length oc,.int .i64 k,.int .i64 i,.int .i64 j,.slice ra r.length rc] 28)).cell? ⟨w.heap.size,2,none⟩=some (.slice oa o.length oc):=X0.cell 2 _ rfl
 by_cases h0:1≤lv∧lv≤2
 case neg =>
  have HN:Hid (¬ (vdM (lv,ac,o,(k,i,j),r))):=fun h=>h0 h.1.1
  have a1:(lv==1)=false:=by simp;omega
  have a2:(lv==2)=false:=by simp;omega
  clear h0
  go_enter Tryz.func60,Tryz.ntmps60
  go_wp2_with fail
  go_ret
  exact ⟨ans14 ((decide_eq_false HN.out).symm.trans HA.out),B0⟩
 have K0:Hid (1≤lv∧lv≤2):=h0
 by_cases hl:lv=1
 ·have a1:(lv==1)=true:=by simp;omega
  clear h0 hl
  go_enter Tryz.func60,Tryz.ntmps60
  go_wp2_with fail
  have C1:=fun (W:World) (hW:Below w.heap.size w W)=>pallI14 32 o _ W (hO.below hW)
  by_cases h1:o.length≤32∧∀ x∈o,txM x
  case neg =>
   have HN:Hid (¬ (vdM (lv,ac,o,(k,i,j),r))):=fun h=>h1 (⟨h.1.2.1,h.2.1⟩)
   simp only [decide_eq_false h1] at C1
   clear h1
   refine (C1 _ (by assumption)).mono ?_
   rintro e w1 ⟨rfl,b1⟩
   have B1:=bel_trans B0 b1
   go_wp2_with fail
   go_ret
   exact ⟨ans14 ((decide_eq_false HN.out).symm.trans HA.out),B1⟩
  have K1:Hid (o.length≤32∧∀ x∈o,txM x):=h1
  simp only [decide_eq_true h1] at C1
  clear h1
  refine (C1 _ (by assumption)).mono ?_
  rintro e w1 ⟨rfl,b1⟩
  have B1:=bel_trans B0 b1
  have X1:=X0.below b1
  have c1_3:w1.cell? ⟨w.heap.size,3,none⟩=some (.int .i64 k):=X1.cell 3 _ rfl
  clear X0 B0 b1 C1
  go_wp2_with fail
  have C2:=fun (W:World) (hW:Below w.heap.size w W)=>pwithin14 k 0 4 W
  by_cases h2:0≤k∧k≤4
  case neg =>
   have HN:Hid (¬ (vdM (lv,ac,o,(k,i,j),r))):=fun h=>h2 (h.1.2.2.1)
   simp only [decide_eq_false h2] at C2
   clear h2
   refine (C2 _ (by assumption)).mono ?_
   rintro e w2 ⟨rfl,b2⟩
   have B2:=bel_trans B1 b2
   go_wp2_with fail
   go_ret
   exact ⟨ans14 ((decide_eq_false HN.out).symm.trans HA.out),B2⟩
  have K2:Hid (0≤k∧k≤4):=h2
  simp only [decide_eq_true h2] at C2
  clear h2
  refine (C2 _ (by assumption)).mono ?_
  rintro e w2 ⟨rfl,b2⟩
  have B2:=bel_trans B1 b2
  have X2:=X1.below b2
  have c2_4:w2.cell? ⟨w.heap.size,4,none⟩=some (.int .i64 i):=X2.cell 4 _ rfl
  clear X1 B1 b2 C2
  go_wp2_with fail
  have C3:=fun (W:World) (hW:Below w.heap.size w W)=>pisPlace14 i W
  by_cases h3:plM i
  case neg =>
   have HN:Hid (¬ (vdM (lv,ac,o,(k,i,j),r))):=fun h=>h3 (h.1.2.2.2.1.1)
   simp only [decide_eq_false h3] at C3
   clear h3
   refine (C3 _ (by assumption)).mono ?_
   rintro e w3 ⟨rfl,b3⟩
   have B3:=bel_trans B2 b3
   go_wp2_with fail
   go_ret
   exact ⟨ans14 ((decide_eq_false HN.out).symm.trans HA.out),B3⟩
  have K3:Hid (plM i):=h3
  simp only [decide_eq_true h3] at C3
  clear h3
  refine (C3 _ (by assumption)).mono ?_
  rintro e w3 ⟨rfl,b3⟩
  have B3:=bel_trans B2 b3
  have X3:=X2.below b3
  have c3_5:w3.cell? ⟨w.heap.size,5,none⟩=some (.int .i64 j):=X3.cell 5 _ rfl
  clear X2 B2 b3 C3
  go_wp2_with fail
  have C4:=fun (W:World) (hW:Below w.heap.size w W)=>pisPlace14 j W
  by_cases h4:plM j
  case neg =>
   have HN:Hid (¬ (vdM (lv,ac,o,(k,i,j),r))):=fun h=>h4 (h.1.2.2.2.1.2)
   simp only [decide_eq_false h4] at C4
   clear h4
   refine (C4 _ (by assumption)).mono ?_
   rintro e w4 ⟨rfl,b4⟩
   have B4:=bel_trans B3 b4
   go_wp2_with fail
   go_ret
   exact ⟨ans14 ((decide_eq_false HN.out).symm.trans HA.out),B4⟩
  have K4:Hid (plM j):=h4
  simp only [decide_eq_true h4] at C4
  clear h4
  refine (C4 _ (by assumption)).mono ?_
  rintro e w4 ⟨rfl,b4⟩
  have B4:=bel_trans B3 b4
  have X4:=X3.below b4
  have c4_6:w4.cell? ⟨w.heap.size,6,none⟩=some (.slice ra r.length rc):=X4.cell 6 _ rfl
  clear X3 B3 b4 C4
  go_wp2_with fail
  have C5:=fun (W:World) (hW:Below w.heap.size w W)=>pallE14 128 r _ W (hR.below hW)
  by_cases h5:r.length≤128∧∀ x∈r,edM x
  case neg =>
   have HN:Hid (¬ (vdM (lv,ac,o,(k,i,j),r))):=fun h=>h5 (⟨h.1.2.2.2.2,h.2.2⟩)
   simp only [decide_eq_false h5] at C5
   clear h5
   refine (C5 _ (by assumption)).mono ?_
   rintro e w5 ⟨rfl,b5⟩
   have B5:=bel_trans B4 b5
   go_wp2_with fail
   go_ret
   exact ⟨ans14 ((decide_eq_false HN.out).symm.trans HA.out),B5⟩
  have K5:Hid (r.length≤128∧∀ x∈r,edM x):=h5
  simp only [decide_eq_true h5] at C5
  clear h5
  refine (C5 _ (by assumption)).mono ?_
  rintro e w5 ⟨rfl,b5⟩
  have B5:=bel_trans B4 b5
  have X5:=X4.below b5
  clear X4 B4 b5 C5
  go_wp2_with fail
  go_ret
  exact ⟨ans14 ((decide_eq_true (show vdM (lv,ac,o,(k,i,j),r) from ⟨⟨K0.out,K1.out.1,K2.out,⟨K3.out,K4.out⟩,K5.out.1⟩,K1.out.2,K5.out.2⟩)).symm.trans HA.out),B5⟩
 ·have a1:(lv==1)=false:=by simp;omega
  have a2:(lv==2)=true:=by simp;omega
  clear h0 hl
  go_enter Tryz.func60,Tryz.ntmps60
  go_wp2_with fail
  have C1:=fun (W:World) (hW:Below w.heap.size w W)=>pallI14 32 o _ W (hO.below hW)
  by_cases h1:o.length≤32∧∀ x∈o,txM x
  case neg =>
   have HN:Hid (¬ (vdM (lv,ac,o,(k,i,j),r))):=fun h=>h1 (⟨h.1.2.1,h.2.1⟩)
   simp only [decide_eq_false h1] at C1
   clear h1
   refine (C1 _ (by assumption)).mono ?_
   rintro e w1 ⟨rfl,b1⟩
   have B1:=bel_trans B0 b1
   go_wp2_with fail
   go_ret
   exact ⟨ans14 ((decide_eq_false HN.out).symm.trans HA.out),B1⟩
  have K1:Hid (o.length≤32∧∀ x∈o,txM x):=h1
  simp only [decide_eq_true h1] at C1
  clear h1
  refine (C1 _ (by assumption)).mono ?_
  rintro e w1 ⟨rfl,b1⟩
  have B1:=bel_trans B0 b1
  have X1:=X0.below b1
  have c1_3:w1.cell? ⟨w.heap.size,3,none⟩=some (.int .i64 k):=X1.cell 3 _ rfl
  clear X0 B0 b1 C1
  go_wp2_with fail
  have C2:=fun (W:World) (hW:Below w.heap.size w W)=>pwithin14 k 0 4 W
  by_cases h2:0≤k∧k≤4
  case neg =>
   have HN:Hid (¬ (vdM (lv,ac,o,(k,i,j),r))):=fun h=>h2 (h.1.2.2.1)
   simp only [decide_eq_false h2] at C2
   clear h2
   refine (C2 _ (by assumption)).mono ?_
   rintro e w2 ⟨rfl,b2⟩
   have B2:=bel_trans B1 b2
   go_wp2_with fail
   go_ret
   exact ⟨ans14 ((decide_eq_false HN.out).symm.trans HA.out),B2⟩
  have K2:Hid (0≤k∧k≤4):=h2
  simp only [decide_eq_true h2] at C2
  clear h2
  refine (C2 _ (by assumption)).mono ?_
  rintro e w2 ⟨rfl,b2⟩
  have B2:=bel_trans B1 b2
  have X2:=X1.below b2
  have c2_4:w2.cell? ⟨w.heap.size,4,none⟩=some (.int .i64 i):=X2.cell 4 _ rfl
  clear X1 B1 b2 C2
  go_wp2_with fail
  have C3:=fun (W:World) (hW:Below w.heap.size w W)=>pisPlace14 i W
  by_cases h3:plM i
  case neg =>
   have HN:Hid (¬ (vdM (lv,ac,o,(k,i,j),r))):=fun h=>h3 (h.1.2.2.2.1.1)
   simp only [decide_eq_false h3] at C3
   clear h3
   refine (C3 _ (by assumption)).mono ?_
   rintro e w3 ⟨rfl,b3⟩
   have B3:=bel_trans B2 b3
   go_wp2_with fail
   go_ret
   exact ⟨ans14 ((decide_eq_false HN.out).symm.trans HA.out),B3⟩
  have K3:Hid (plM i):=h3
  simp only [decide_eq_true h3] at C3
  clear h3
  refine (C3 _ (by assumption)).mono ?_
  rintro e w3 ⟨rfl,b3⟩
  have B3:=bel_trans B2 b3
  have X3:=X2.below b3
  have c3_5:w3.cell? ⟨w.heap.size,5,none⟩=some (.int .i64 j):=X3.cell 5 _ rfl
  clear X2 B2 b3 C3
  go_wp2_with fail
  have C4:=fun (W:World) (hW:Below w.heap.size w W)=>pisPlace14 j W
  by_cases h4:plM j
  case neg =>
   have HN:Hid (¬ (vdM (lv,ac,o,(k,i,j),r))):=fun h=>h4 (h.1.2.2.2.1.2)
   simp only [decide_eq_false h4] at C4
   clear h4
   refine (C4 _ (by assumption)).mono ?_
   rintro e w4 ⟨rfl,b4⟩
   have B4:=bel_trans B3 b4
   go_wp2_with fail
   go_ret
   exact ⟨ans14 ((decide_eq_false HN.out).symm.trans HA.out),B4⟩
  have K4:Hid (plM j):=h4
  simp only [decide_eq_true h4] at C4
  clear h4
  refine (C4 _ (by assumption)).mono ?_
  rintro e w4 ⟨rfl,b4⟩
  have B4:=bel_trans B3 b4
  have X4:=X3.below b4
  have c4_6:w4.cell? ⟨w.heap.size,6,none⟩=some (.slice ra r.length rc):=X4.cell 6 _ rfl
  clear X3 B3 b4 C4
  go_wp2_with fail
  have C5:=fun (W:World) (hW:Below w.heap.size w W)=>pallE14 128 r _ W (hR.below hW)
  by_cases h5:r.length≤128∧∀ x∈r,edM x
  case neg =>
   have HN:Hid (¬ (vdM (lv,ac,o,(k,i,j),r))):=fun h=>h5 (⟨h.1.2.2.2.2,h.2.2⟩)
   simp only [decide_eq_false h5] at C5
   clear h5
   refine (C5 _ (by assumption)).mono ?_
   rintro e w5 ⟨rfl,b5⟩
   have B5:=bel_trans B4 b5
   go_wp2_with fail
   go_ret
   exact ⟨ans14 ((decide_eq_false HN.out).symm.trans HA.out),B5⟩
  have K5:Hid (r.length≤128∧∀ x∈r,edM x):=h5
  simp only [decide_eq_true h5] at C5
  clear h5
  refine (C5 _ (by assumption)).mono ?_
  rintro e w5 ⟨rfl,b5⟩
  have B5:=bel_trans B4 b5
  have X5:=X4.below b5
  clear X4 B4 b5 C5
  go_wp2_with fail
  go_ret
  exact ⟨ans14 ((decide_eq_true (show vdM (lv,ac,o,(k,i,j),r) from ⟨⟨K0.out,K1.out.1,K2.out,⟨K3.out,K4.out⟩,K5.out.1⟩,K1.out.2,K5.out.2⟩)).symm.trans HA.out),B5⟩
set_option maxHeartbeats 4000000 in
theorem pmayc14 (tn:List UInt8) (sq:Int) (pv rt:List UInt8) (ct lv k i j:Int) (ac:Bool) (oa:Option Addr) (oc:Nat) (o:List Int) (ra:Option Addr) (rc:Nat) (r:List Ed) (pa:Option Addr) (pc:Nat) (p:List Pf) (w:World) (hO:IsInts w (.slice oa o.length oc) o) (hR:IsEds w (.slice ra r.length rc) r) (hP:IsPfs w (.slice pa p.length pc) p):Calls Tryz.prog 22 #[.agg #[.string ⟨tn.toArray⟩,.int .i64 sq,.string ⟨pv.toArray⟩,.string ⟨rt.toArray⟩,.int .i64 ct,.int .i64 lv,.bool ac,.slice oa o.length oc,.int .i64 k,.int .i64 i,.int .i64 j,.slice ra r.length rc,.slice pa p.length pc]] w fun e w'=>e=.returned (.bool (decide (mayC (tn,sq,pv,rt,ct,(lv,ac,o,(k,i,j),r),p))))∧Below w.heap.size w w':=by
 have B0:=(Below.refl w.heap.size w).alloc (Nat.le_refl _) (.cells #[.string ⟨tn.toArray⟩,.int .i64 sq,.string ⟨pv.toArray⟩,.string ⟨rt.toArray⟩,.int .i64 ct,.int .i64 lv,.bool ac,.slice oa o.length oc,.int .i64 k,.int .i64 i,.int .i64 j,.slice ra r.length rc,.slice pa p.length pc] 35)
 have X0:=SBox.new w 35 #[.string ⟨tn.toArray⟩,.int .i64 sq,.string ⟨pv.toArray⟩,.string ⟨rt.toArray⟩,.int .i64 ct,.int .i64 lv,.bool ac,.slice oa o.length oc,.int .i64 k,.int .i64 i,.int .i64 j,.slice ra r.length rc,.slice pa p.length pc]
 obtain ⟨ans,hans⟩:∃ b,decide (mayC (tn,sq,pv,rt,ct,(lv,ac,o,(k,i,j),r),p))=b:=⟨_,rfl⟩
 rw [hans]
 have HA:Hid (decide (mayC (tn,sq,pv,rt,ct,(lv,ac,o,(k,i,j),r),p))=ans):=hans
 clear hans
 have c0_0:(w.alloc (.cells #[.string ⟨tn.toArray⟩,.int .i64 sq,.string ⟨pv.toArray⟩,.string ⟨rt.toArray⟩,.int .i64 ct,.int .i64 lv,.bool ac,.slice oa o.length oc,.int .i64 k,.int .i64 i,.int .i64 j,.slice ra r.length rc,.slice pa p.length pc] 35)).cell? ⟨w.heap.size,0,none⟩=some (.string ⟨tn.toArray⟩):=X0.cell 0 _ rfl
 have HE:Hid (pv=[]∨pv≠[]):=Classical.em _
 go_enter Tryz.func22,Tryz.ntmps22
 go_wp2_with fail
 have C1:=fun (W:World) (hW:Below w.heap.size w W)=>pwithin14 (tn.length:Int) 1 16 W
 by_cases h1:1≤(tn.length:Int)∧(tn.length:Int)≤16
 case neg =>
  have HN:Hid (¬ (mayC (tn,sq,pv,rt,ct,(lv,ac,o,(k,i,j),r),p))):=fun h=>h1 (⟨by have h9:1≤tn.length:=h.1.1.1;omega,by have h9:tn.length≤16:=h.1.1.2;omega⟩)
  simp only [decide_eq_false h1] at C1
  clear h1
  refine (C1 _ (by assumption)).mono ?_
  rintro e w1 ⟨rfl,b1⟩
  have B1:=bel_trans B0 b1
  go_wp2_with fail
  go_ret
  exact ⟨ans14 ((decide_eq_false HN.out).symm.trans HA.out),B1⟩
 have K1:Hid (1≤(tn.length:Int)∧(tn.length:Int)≤16):=h1
 simp only [decide_eq_true h1] at C1
 clear h1
 refine (C1 _ (by assumption)).mono ?_
 rintro e w1 ⟨rfl,b1⟩
 have B1:=bel_trans B0 b1
 have X1:=X0.below b1
 have c1_1:w1.cell? ⟨w.heap.size,1,none⟩=some (.int .i64 sq):=X1.cell 1 _ rfl
 clear X0 B0 b1 C1
 go_wp2_with fail
 have C2:=fun (W:World) (hW:Below w.heap.size w W)=>pwithin14 sq 1 1048576 W
 by_cases h2:1≤sq∧sq≤1048576
 case neg =>
  have HN:Hid (¬ (mayC (tn,sq,pv,rt,ct,(lv,ac,o,(k,i,j),r),p))):=fun h=>h2 (h.1.2.1)
  simp only [decide_eq_false h2] at C2
  clear h2
  refine (C2 _ (by assumption)).mono ?_
  rintro e w2 ⟨rfl,b2⟩
  have B2:=bel_trans B1 b2
  go_wp2_with fail
  go_ret
  exact ⟨ans14 ((decide_eq_false HN.out).symm.trans HA.out),B2⟩
 have K2:Hid (1≤sq∧sq≤1048576):=h2
 simp only [decide_eq_true h2] at C2
 clear h2
 refine (C2 _ (by assumption)).mono ?_
 rintro e w2 ⟨rfl,b2⟩
 have B2:=bel_trans B1 b2
 have X2:=X1.below b2
 have c2_2:w2.cell? ⟨w.heap.size,2,none⟩=some (.string ⟨pv.toArray⟩):=X2.cell 2 _ rfl
 have c2_3:w2.cell? ⟨w.heap.size,3,none⟩=some (.string ⟨rt.toArray⟩):=X2.cell 3 _ rfl
 clear X1 B1 b2 C2
 by_cases hp:pv=[]
 ·have e0:pv.isEmpty=true:=by subst hp;rfl
  have KP:Hid (pv.length=0∨pv.length=32):=by subst hp;exact .inl rfl
  clear hp HE
  go_wp2_with fail
  have C3:=fun (W:World) (hW:Below w.heap.size w W)=>pisSum14 rt W
  by_cases h3:rt.length=32
  case neg =>
   have HN:Hid (¬ (mayC (tn,sq,pv,rt,ct,(lv,ac,o,(k,i,j),r),p))):=fun h=>h3 (h.1.2.2.2.1)
   simp only [decide_eq_false h3] at C3
   clear h3
   refine (C3 _ (by assumption)).mono ?_
   rintro e w3 ⟨rfl,b3⟩
   have B3:=bel_trans B2 b3
   go_wp2_with fail
   go_ret
   exact ⟨ans14 ((decide_eq_false HN.out).symm.trans HA.out),B3⟩
  have K3:Hid (rt.length=32):=h3
  simp only [decide_eq_true h3] at C3
  clear h3
  refine (C3 _ (by assumption)).mono ?_
  rintro e w3 ⟨rfl,b3⟩
  have B3:=bel_trans B2 b3
  have X3:=X2.below b3
  have c3_4:w3.cell? ⟨w.heap.size,4,none⟩=some (.int .i64 ct):=X3.cell 4 _ rfl
  clear X2 B2 b3 C3
  go_wp2_with fail
  have C4:=fun (W:World) (hW:Below w.heap.size w W)=>pwithin14 ct 0 256 W
  by_cases h4:0≤ct∧ct≤256
  case neg =>
   have HN:Hid (¬ (mayC (tn,sq,pv,rt,ct,(lv,ac,o,(k,i,j),r),p))):=fun h=>h4 (h.1.2.2.2.2)
   simp only [decide_eq_false h4] at C4
   clear h4
   refine (C4 _ (by assumption)).mono ?_
   rintro e w4 ⟨rfl,b4⟩
   have B4:=bel_trans B3 b4
   go_wp2_with fail
   go_ret
   exact ⟨ans14 ((decide_eq_false HN.out).symm.trans HA.out),B4⟩
  have K4:Hid (0≤ct∧ct≤256):=h4
  simp only [decide_eq_true h4] at C4
  clear h4
  refine (C4 _ (by assumption)).mono ?_
  rintro e w4 ⟨rfl,b4⟩
  have B4:=bel_trans B3 b4
  have X4:=X3.below b4
  have c4_5:w4.cell? ⟨w.heap.size,5,none⟩=some (.int .i64 lv):=X4.cell 5 _ rfl
  have c4_6:w4.cell? ⟨w.heap.size,6,none⟩=some (.bool ac):=X4.cell 6 _ rfl
  have c4_7:w4.cell? ⟨w.heap.size,7,none⟩=some (.slice oa o.length oc):=X4.cell 7 _ rfl
  have c4_8:w4.cell? ⟨w.heap.size,8,none⟩=some (.int .i64 k):=X4.cell 8 _ rfl
  have c4_9:w4.cell? ⟨w.heap.size,9,none⟩=some (.int .i64 i):=X4.cell 9 _ rfl
  have c4_10:w4.cell? ⟨w.heap.size,10,none⟩=some (.int .i64 j):=X4.cell 10 _ rfl
  have c4_11:w4.cell? ⟨w.heap.size,11,none⟩=some (.slice ra r.length rc):=X4.cell 11 _ rfl
  clear X3 B3 b4 C4
  go_wp2_with fail
  have C5:=fun (W:World) (hW:Below w.heap.size w W)=>pverdictMay14 lv k i j ac oa oc o ra rc r W (hO.below hW) (hR.below hW)
  by_cases h5:vdM (lv,ac,o,(k,i,j),r)
  case neg =>
   have HN:Hid (¬ (mayC (tn,sq,pv,rt,ct,(lv,ac,o,(k,i,j),r),p))):=fun h=>h5 (h.2.1)
   simp only [decide_eq_false h5] at C5
   clear h5
   refine (C5 _ (by assumption)).mono ?_
   rintro e w5 ⟨rfl,b5⟩
   have B5:=bel_trans B4 b5
   go_wp2_with fail
   go_ret
   exact ⟨ans14 ((decide_eq_false HN.out).symm.trans HA.out),B5⟩
  have K5:Hid (vdM (lv,ac,o,(k,i,j),r)):=h5
  simp only [decide_eq_true h5] at C5
  clear h5
  refine (C5 _ (by assumption)).mono ?_
  rintro e w5 ⟨rfl,b5⟩
  have B5:=bel_trans B4 b5
  have X5:=X4.below b5
  have c5_12:w5.cell? ⟨w.heap.size,12,none⟩=some (.slice pa p.length pc):=X5.cell 12 _ rfl
  clear X4 B4 b5 C5
  go_wp2_with fail
  have C6:=fun (W:World) (hW:Below w.heap.size w W)=>pallP14 256 p _ W (hP.below hW)
  by_cases h6:p.length≤256∧∀ x∈p,pfM x
  case neg =>
   have HN:Hid (¬ (mayC (tn,sq,pv,rt,ct,(lv,ac,o,(k,i,j),r),p))):=fun h=>h6 (⟨h.2.2.1,h.2.2.2⟩)
   simp only [decide_eq_false h6] at C6
   clear h6
   refine (C6 _ (by assumption)).mono ?_
   rintro e w6 ⟨rfl,b6⟩
   have B6:=bel_trans B5 b6
   go_wp2_with fail
   go_ret
   exact ⟨ans14 ((decide_eq_false HN.out).symm.trans HA.out),B6⟩
  have K6:Hid (p.length≤256∧∀ x∈p,pfM x):=h6
  simp only [decide_eq_true h6] at C6
  clear h6
  refine (C6 _ (by assumption)).mono ?_
  rintro e w6 ⟨rfl,b6⟩
  have B6:=bel_trans B5 b6
  have X6:=X5.below b6
  clear X5 B5 b6 C6
  go_wp2_with fail
  go_ret
  exact ⟨ans14 ((decide_eq_true (show mayC (tn,sq,pv,rt,ct,(lv,ac,o,(k,i,j),r),p) from ⟨⟨⟨by show 1≤tn.length;have:=K1.out.1;omega,by show tn.length≤16;have:=K1.out.2;omega⟩,K2.out,KP.out,K3.out,K4.out⟩,K5.out,K6.out.1,K6.out.2⟩)).symm.trans HA.out),B6⟩
 ·have e0:pv.isEmpty=false:=by cases pv with | nil=>exact absurd rfl hp | cons a b=>rfl
  have HP0:Hid (pv≠[]):=hp
  clear hp HE
  go_wp2_with fail
  have C3:=fun (W:World) (hW:Below w.heap.size w W)=>pisSum14 pv W
  by_cases h3:pv.length=32
  case neg =>
   have HN:Hid (¬ (mayC (tn,sq,pv,rt,ct,(lv,ac,o,(k,i,j),r),p))):=fun h=>h3 (by rcases h.1.2.2.1 with h9 | h9;exact absurd (List.length_eq_zero_iff.1 h9) HP0.out;exact h9)
   simp only [decide_eq_false h3] at C3
   clear h3
   refine (C3 _ (by assumption)).mono ?_
   rintro e w3 ⟨rfl,b3⟩
   have B3:=bel_trans B2 b3
   go_wp2_with fail
   go_ret
   exact ⟨ans14 ((decide_eq_false HN.out).symm.trans HA.out),B3⟩
  have K3:Hid (pv.length=32):=h3
  simp only [decide_eq_true h3] at C3
  clear h3
  refine (C3 _ (by assumption)).mono ?_
  rintro e w3 ⟨rfl,b3⟩
  have B3:=bel_trans B2 b3
  have X3:=X2.below b3
  have c3_3:w3.cell? ⟨w.heap.size,3,none⟩=some (.string ⟨rt.toArray⟩):=X3.cell 3 _ rfl
  clear X2 B2 b3 C3
  go_wp2_with fail
  have C4:=fun (W:World) (hW:Below w.heap.size w W)=>pisSum14 rt W
  by_cases h4:rt.length=32
  case neg =>
   have HN:Hid (¬ (mayC (tn,sq,pv,rt,ct,(lv,ac,o,(k,i,j),r),p))):=fun h=>h4 (h.1.2.2.2.1)
   simp only [decide_eq_false h4] at C4
   clear h4
   refine (C4 _ (by assumption)).mono ?_
   rintro e w4 ⟨rfl,b4⟩
   have B4:=bel_trans B3 b4
   go_wp2_with fail
   go_ret
   exact ⟨ans14 ((decide_eq_false HN.out).symm.trans HA.out),B4⟩
  have K4:Hid (rt.length=32):=h4
  simp only [decide_eq_true h4] at C4
  clear h4
  refine (C4 _ (by assumption)).mono ?_
  rintro e w4 ⟨rfl,b4⟩
  have B4:=bel_trans B3 b4
  have X4:=X3.below b4
  have c4_4:w4.cell? ⟨w.heap.size,4,none⟩=some (.int .i64 ct):=X4.cell 4 _ rfl
  clear X3 B3 b4 C4
  go_wp2_with fail
  have C5:=fun (W:World) (hW:Below w.heap.size w W)=>pwithin14 ct 0 256 W
  by_cases h5:0≤ct∧ct≤256
  case neg =>
   have HN:Hid (¬ (mayC (tn,sq,pv,rt,ct,(lv,ac,o,(k,i,j),r),p))):=fun h=>h5 (h.1.2.2.2.2)
   simp only [decide_eq_false h5] at C5
   clear h5
   refine (C5 _ (by assumption)).mono ?_
   rintro e w5 ⟨rfl,b5⟩
   have B5:=bel_trans B4 b5
   go_wp2_with fail
   go_ret
   exact ⟨ans14 ((decide_eq_false HN.out).symm.trans HA.out),B5⟩
  have K5:Hid (0≤ct∧ct≤256):=h5
  simp only [decide_eq_true h5] at C5
  clear h5
  refine (C5 _ (by assumption)).mono ?_
  rintro e w5 ⟨rfl,b5⟩
  have B5:=bel_trans B4 b5
  have X5:=X4.below b5
  have c5_5:w5.cell? ⟨w.heap.size,5,none⟩=some (.int .i64 lv):=X5.cell 5 _ rfl
  have c5_6:w5.cell? ⟨w.heap.size,6,none⟩=some (.bool ac):=X5.cell 6 _ rfl
  have c5_7:w5.cell? ⟨w.heap.size,7,none⟩=some (.slice oa o.length oc):=X5.cell 7 _ rfl
  have c5_8:w5.cell? ⟨w.heap.size,8,none⟩=some (.int .i64 k):=X5.cell 8 _ rfl
  have c5_9:w5.cell? ⟨w.heap.size,9,none⟩=some (.int .i64 i):=X5.cell 9 _ rfl
  have c5_10:w5.cell? ⟨w.heap.size,10,none⟩=some (.int .i64 j):=X5.cell 10 _ rfl
  have c5_11:w5.cell? ⟨w.heap.size,11,none⟩=some (.slice ra r.length rc):=X5.cell 11 _ rfl
  clear X4 B4 b5 C5
  go_wp2_with fail
  have C6:=fun (W:World) (hW:Below w.heap.size w W)=>pverdictMay14 lv k i j ac oa oc o ra rc r W (hO.below hW) (hR.below hW)
  by_cases h6:vdM (lv,ac,o,(k,i,j),r)
  case neg =>
   have HN:Hid (¬ (mayC (tn,sq,pv,rt,ct,(lv,ac,o,(k,i,j),r),p))):=fun h=>h6 (h.2.1)
   simp only [decide_eq_false h6] at C6
   clear h6
   refine (C6 _ (by assumption)).mono ?_
   rintro e w6 ⟨rfl,b6⟩
   have B6:=bel_trans B5 b6
   go_wp2_with fail
   go_ret
   exact ⟨ans14 ((decide_eq_false HN.out).symm.trans HA.out),B6⟩
  have K6:Hid (vdM (lv,ac,o,(k,i,j),r)):=h6
  simp only [decide_eq_true h6] at C6
  clear h6
  refine (C6 _ (by assumption)).mono ?_
  rintro e w6 ⟨rfl,b6⟩
  have B6:=bel_trans B5 b6
  have X6:=X5.below b6
  have c6_12:w6.cell? ⟨w.heap.size,12,none⟩=some (.slice pa p.length pc):=X6.cell 12 _ rfl
  clear X5 B5 b6 C6
  go_wp2_with fail
  have C7:=fun (W:World) (hW:Below w.heap.size w W)=>pallP14 256 p _ W (hP.below hW)
  by_cases h7:p.length≤256∧∀ x∈p,pfM x
  case neg =>
   have HN:Hid (¬ (mayC (tn,sq,pv,rt,ct,(lv,ac,o,(k,i,j),r),p))):=fun h=>h7 (⟨h.2.2.1,h.2.2.2⟩)
   simp only [decide_eq_false h7] at C7
   clear h7
   refine (C7 _ (by assumption)).mono ?_
   rintro e w7 ⟨rfl,b7⟩
   have B7:=bel_trans B6 b7
   go_wp2_with fail
   go_ret
   exact ⟨ans14 ((decide_eq_false HN.out).symm.trans HA.out),B7⟩
  have K7:Hid (p.length≤256∧∀ x∈p,pfM x):=h7
  simp only [decide_eq_true h7] at C7
  clear h7
  refine (C7 _ (by assumption)).mono ?_
  rintro e w7 ⟨rfl,b7⟩
  have B7:=bel_trans B6 b7
  have X7:=X6.below b7
  clear X6 B6 b7 C7
  go_wp2_with fail
  go_ret
  exact ⟨ans14 ((decide_eq_true (show mayC (tn,sq,pv,rt,ct,(lv,ac,o,(k,i,j),r),p) from ⟨⟨⟨by show 1≤tn.length;have:=K1.out.1;omega,by show tn.length≤16;have:=K1.out.2;omega⟩,K2.out,.inr K3.out,K4.out,K5.out⟩,K6.out,K7.out.1,K7.out.2⟩)).symm.trans HA.out),B7⟩
end Go.Proofs.YtkkenfhlgpjmjaaGreatDoor
namespace Go.Proofs.YtkkenfhlgpjmjaaGreatDoor
set_option maxRecDepth 100000
open Go.RowKit
set_option linter.unusedVariables false
theorem assert14_is (w:World):(Instr.typeAssert (.iface 36 (.int .i64 3)) 20 36 true).run Tryz.prog w=.ok (.tuple #[.int .i64 3,.bool true]) w:=by kernel_rfl
theorem assert14_nil (w:World):(Instr.typeAssert .nilIface 20 36 true).run Tryz.prog w=.ok (.tuple #[.int .i64 0,.bool false]) w:=by kernel_rfl
theorem prec14_fault (pe:Nat) (x:Int) (w:World) (hc:w.cell? ⟨pe,0,none⟩=some (.int .i64 x)) (hz:w.frozen? ⟨pe,0,none⟩=false) :
 CallsD Tryz.prog 50 #[.pointer (some ⟨pe,0,none⟩)] (.panicking fault14) w fun e u' w' =>
  e=.returned (.tuple #[])∧u'=.panicking [{ v:=.iface 36 (.int .i64 3),recovered:=true }]∧w'=w.setCell ⟨pe,0,none⟩ (.int .i64 3):=by
 have hta:=assert14_is
 refine callsD_of_wpS Tryz.func50 rfl fun c₀ cs hu=>?_
 apply wpS_seq
 apply wpS_region
 simp [wpOpsS,go_sem,recoverD,hu,hta,Tryz.ntmps50,Exit.thenS]
 apply wpS_seq
 apply wpS_region
 simp [wpOpsS,go_sem,Exit.thenS]
 refine wpS_cond (t:=true) (by simp [Act.eval,Array.replicate]) ?_
 simp only [if_true]
 apply wpS_region
 simp [wpOpsS,go_sem,hc,hz,bodyPostS,results,Tryz.results50]
theorem prec14_idle (pe:Nat) (w:World) :
 CallsD Tryz.prog 50 #[.pointer (some ⟨pe,0,none⟩)] .returning w fun e u' w'=>e=.returned (.tuple #[])∧u'=.returning∧w'=w:=by
 have htn:=assert14_nil
 refine callsD_of_wpS Tryz.func50 rfl fun c₀ cs hu=>?_
 apply wpS_seq
 apply wpS_region
 simp [wpOpsS,go_sem,recoverD,hu,htn,Tryz.ntmps50,Exit.thenS]
 apply wpS_seq
 apply wpS_region
 simp [wpOpsS,go_sem,Exit.thenS]
 refine wpS_cond (t:=false) (by simp [Act.eval,Array.replicate]) ?_
 simp only [Bool.false_eq_true,if_false]
 refine wpS_of_wp (wp_skip ?_)
 cases c₀
 simp_all [bodyPostS,results,Tryz.results50]
theorem results_rc14 {P:Program} {fn:Func} {p q:Tmp} {ty t2:TypeId} (h:fn.results=#[.cell p ty,.cell q t2]) (tmps:Array Value) (w:World) (g:Nat) (t:TypeId) (cs:Array Value) (fr:Nat × Nat) (d:TypeDesc)
 (hp:tmps.getD p undef=.pointer (some ⟨g,0,none⟩)) (hg:w.heap[g]?=some (.cells cs t fr))
 (hu:P.underlying ty=some d) (hd:(match d with | .struct _ | .array _ _=>true | _=>false)=true) (hi:(P.info? ty).map (·.size)=some cs.size)
 (v:Value) (hv:((asAddr (tmps.getD q undef)).run P w).andThen (fun a w₁=>((loadVar t2 a).run P w₁))=Result.ok v w) :
 (results fn tmps).run P w=.ok (.tuple #[.agg cs,v]) w:=by
 have hp':tmps[p]?.getD undef=.pointer (some ⟨g,0,none⟩):=by simpa using hp
 have hv':((asAddr (tmps[q]?.getD undef)).run P w).andThen (fun a w₁=>((loadVar t2 a).run P w₁))=Result.ok v w:=by simpa using hv
 cases hq:(asAddr (tmps[q]?.getD undef)).run P w with
 | ok b w2 =>
   rw [hq] at hv'
   simp only [Result.andThen] at hv'
   simp [results,h,hp',asAddr,run_loadVar_row w g t ty cs fr d hg hu hd hi]
   simp only [asAddr] at hq
   simp [hq,hv']
 | _=>rw [hq] at hv';simp [Result.andThen] at hv'
theorem size_ct14:(Tryz.prog.info? 35).map (·.size)=some 13:=by kernel_rfl
section
variable {n0:Nat} {W:World} {tmps cs:Array Value} {x:Int} {R:Ending→World→Prop}
theorem door14_no (h2:tmps.getD 2 undef=.pointer (some ⟨n0,0,none⟩)) (h3:tmps.getD 3 undef=.pointer (some ⟨n0+1,0,none⟩)) (T:SBox W n0 35 cs) (hcs:cs.size=13) (E:SBox W (n0+1) 36 #[.int .i64 x])
 (hR:R (.returned (.tuple #[.agg cs,.int .i64 3])) (W.setCell ⟨n0+1,0,none⟩ (.int .i64 3))) :
 Leaves Tryz.prog Tryz.f20 tmps R [{ target:=.fn (.func 50) #[.pointer (some ⟨n0+1,0,none⟩)],args:=#[] }] (.panicking fault14) W:=by
 refine leaves_cons (f:=50) (args:=#[.pointer (some ⟨n0+1,0,none⟩)]) (by simp) (by simp [go_sem]) ?_
 refine (prec14_fault (n0+1) x W (E.cell 0 _ rfl) (E.frozen 0)).mono ?_
 rintro e u' w'' ⟨rfl,rfl,rfl⟩
 have T1:=T.other (n0+1) 0 (.int .i64 3) (by omega)
 have d1:(W.setCell ⟨n0+1,0,none⟩ (.int .i64 3)).cell? ⟨n0+1,0,none⟩=some (.int .i64 3):=(E.set 0 (.int .i64 3)).cell 0 _ rfl
 exact ⟨_,results_rc14 Tryz.results20 _ _ n0 35 _ (0,0) _ h2 T1 Tryz.underlying35 rfl (by rw [hcs];exact size_ct14) (.int .i64 3) (by rw [h3];simp [asAddr,go_sem,d1]),hR⟩
theorem door14_yes (h2:tmps.getD 2 undef=.pointer (some ⟨n0,0,none⟩)) (h3:tmps.getD 3 undef=.pointer (some ⟨n0+1,0,none⟩)) (T:SBox W n0 35 cs) (hcs:cs.size=13) (E:SBox W (n0+1) 36 #[.int .i64 x])
 (hR:R (.returned (.tuple #[.agg cs,.int .i64 x])) W) :
 Leaves Tryz.prog Tryz.f20 tmps R [{ target:=.fn (.func 50) #[.pointer (some ⟨n0+1,0,none⟩)],args:=#[] }] .returning W:=by
 refine leaves_cons (f:=50) (args:=#[.pointer (some ⟨n0+1,0,none⟩)]) (by simp) (by simp [go_sem]) ?_
 refine (prec14_idle (n0+1) W).mono ?_
 rintro e u' w'' ⟨rfl,rfl,rfl⟩
 have d1:w''.cell? ⟨n0+1,0,none⟩=some (.int .i64 x):=E.cell 0 _ rfl
 exact ⟨_,results_rc14 Tryz.results20 _ _ n0 35 _ (0,0) _ h2 T Tryz.underlying35 rfl (by rw [hcs];exact size_ct14) (.int .i64 x) (by rw [h3];simp [asAddr,go_sem,d1]),hR⟩
end
end Go.Proofs.YtkkenfhlgpjmjaaGreatDoor
namespace Go.Proofs.YtkkenfhlgpjmjaaGreatDoor
set_option maxRecDepth 100000
open Go.RowKit
theorem byte_info:(Tryz.prog.info? 5).map (fun i=>(i.zero,i.size,i.bytes))=some (some (.int .u8 0),1,1):=by kernel_rfl
theorem bld_info:(Tryz.prog.info? 100).map (fun i=>i.size)=some 2:=by kernel_rfl
set_option maxHeartbeats 1000000 in
set_option maxRecDepth 100000 in
theorem copyCheck_used (b:Nat) (w:World) (h0:w.cell? ⟨b,0,none⟩=some (.pointer (some ⟨b,0,none⟩))) :
 Calls Tryz.prog 234 #[.pointer (some ⟨b,0,none⟩)] w fun e w'=>e=.returned (.tuple #[])∧w'=w:=by
 obtain ⟨j,hj,_⟩:=Option.map_eq_some_iff.1 bld_info
 have hne:=fun W=>Lib.run_neq_ptr_same (P:=Tryz.prog) W ⟨b,0,none⟩ Tryz.underlying97 hj
 go_enter Tryz.func234,Tryz.ntmps234
 go_wp2
 go_end0
 exact ⟨rfl,rfl⟩
set_option maxHeartbeats 1000000 in
set_option maxRecDepth 100000 in
theorem copyCheck_fresh (b:Nat) (w:World) (h0:w.cell? ⟨b,0,none⟩=some (.pointer none)) (hsh:w.shape? b=some (100,2)) (hfz:w.frozen? ⟨b,0,none⟩=false) :
 Calls Tryz.prog 234 #[.pointer (some ⟨b,0,none⟩)] w fun e w'=>e=.returned (.tuple #[])∧w'=w.setCell ⟨b,0,none⟩ (.pointer (some ⟨b,0,none⟩)):=by
 obtain ⟨j,hj,hjs⟩:=Option.map_eq_some_iff.1 bld_info
 have hto:=Lib.run_to_unsafe (P:=Tryz.prog) w ⟨b,0,none⟩ Tryz.underlying97 Tryz.underlying334 hj (by rw [hjs];decide) hsh (Nat.zero_lt_succ 1)
 have hfr:=Lib.run_from_unsafe (P:=Tryz.prog) w ⟨b,0,none⟩ Tryz.underlying334 Tryz.underlying97 hj hsh (by kernel_rfl)
 go_enter Tryz.func234,Tryz.ntmps234
 go_wp2
 rw [run_callFunc_extern Tryz.func279 (by kernel_rfl) (by kernel_rfl) (by kernel_rfl) (e:=Extern.AbiNoEscape.same) (by kernel_rfl)]
 rw [Lib.run_noEscape]
 simp only [Result.andThen]
 rw [Oper.upon_value]
 go_wp2
 go_end0
 exact ⟨rfl,rfl⟩
theorem copyCheck_any (B b:Nat) (bs:List Value) (w:World) (h:Lib.IsBuilder 100 5 B b bs w) :
 Calls Tryz.prog 234 #[.pointer (some ⟨b,0,none⟩)] w fun e w'=>e=.returned (.tuple #[])∧(Lib.BuilderAt 100 5 B b (.pointer (some ⟨b,0,none⟩)) bs w'∧Below B w w'):=by
 rcases h with h | h
 ·refine (copyCheck_fresh b w h.cell0 h.shape h.frozen0).mono ?_
  rintro e w' ⟨rfl,rfl⟩
  exact ⟨rfl,h.used _,(Below.refl B w).setCell (p:=⟨b,0,none⟩) h.1 _⟩
 ·refine (copyCheck_used b w h.cell0).mono ?_
  rintro e w' ⟨rfl,rfl⟩
  exact ⟨rfl,h,Below.refl B _⟩
set_option maxHeartbeats 2000000 in
set_option maxRecDepth 100000 in
theorem writeString_any (B b:Nat) (bs:List Value) (s:ByteArray) (w:World) (h:Lib.IsBuilder 100 5 B b bs w) (hlen:bs.length+s.size≤140737488355328) (hBw:B≤w.heap.size) :
 Calls Tryz.prog 174 #[.pointer (some ⟨b,0,none⟩),.string s] w fun e w'=>e=.returned (.tuple #[.int .i64 s.size,.nilIface])∧(Lib.BuilderAt 100 5 B b (.pointer (some ⟨b,0,none⟩)) (bs++Lib.strCells s) w'∧Below B w w'):=by
 obtain ⟨i0,hi,hz0,hz1,hz2⟩:=info_parts byte_info
 go_enter Tryz.func174,Tryz.ntmps174
 go_wp2_with (go_at_call 234;refine (copyCheck_any B b bs _ h).mono ?_)
 rintro e w1 ⟨rfl,h1,hb1⟩
 obtain ⟨hB,v,hbk,hown,hne⟩:=h1
 have c0:w1.cell? ⟨b,0,none⟩=some (.pointer (some ⟨b,0,none⟩)):=by rw [Lib.cell_of_heap hbk];rfl
 have c1:w1.cell? ⟨b,1,none⟩=some v:=by rw [Lib.cell_of_heap hbk];rfl
 go_wp2_with (at_builtin;refine Lib.wpList_append_own_string _ rfl _ _ 98 9 rfl B 5 i0 Tryz.underlying98 Tryz.underlying9 hi hz0 hz1 hz2 _ _ _ rfl hown s rfl ?c3 ?c4 ?c5 ?_)
 case c3=>unfold maxLen;omega
 case c4=>omega
 case c5=>have:=hb1.size;omega
 intro v' w2 hown' hgrow _
 have hlt:b < w1.heap.size:=by
  rcases Nat.lt_or_ge b w1.heap.size with h' | h'
  ·exact h'
  ·simp [Array.getElem?_eq_none h'] at hbk
 have hb2:w2.heap[b]?=some (.cells #[.pointer (some ⟨b,0,none⟩),v] 100 (0,0)):=by
  rw [hgrow.block b hlt (fun e=>hne e.symm)]
  exact hbk
 have d0:w2.cell? ⟨b,0,none⟩=some (.pointer (some ⟨b,0,none⟩)):=by rw [Lib.cell_of_heap hb2];rfl
 have d1:w2.cell? ⟨b,1,none⟩=some v:=by rw [Lib.cell_of_heap hb2];rfl
 have f1:w2.frozen? ⟨b,1,none⟩=false:=Lib.frozen_of_heap hb2 1
 obtain ⟨ao,n',cap,rfl⟩:∃ ao n' cap,v'=.slice ao n' cap:=by
  rcases hown'.2 with ⟨hv,_⟩ | ⟨g,cap,cur,hv,_⟩
  ·exact ⟨_,_,_,hv⟩
  ·exact ⟨_,_,_,hv⟩
 go_wp2
 go_ret2
 refine ⟨rfl,?_,?_⟩
 ·exact Lib.BuilderAt.put (T:=100) (e:=5) hB hb2 (bs':=bs++Lib.strCells s) (by simpa [Lib.strCells_length] using hown') (by decide)
 ·exact (hb1.grown hgrow (by have:=hb1.size;omega) (fun k hk=>(hown.lt k hk).1)).setCell (p:=⟨b,1,none⟩) hB _
set_option maxHeartbeats 1000000 in
set_option maxRecDepth 100000 in
theorem string_any (B b:Nat) (l:List UInt8) (w:World) (h:Lib.BuilderAt 100 5 B b (.pointer (some ⟨b,0,none⟩)) (Lib.byteCells l) w) (h0:l≠[]) :
 Calls Tryz.prog 45 #[.pointer (some ⟨b,0,none⟩)] w fun e w'=>e=.returned (.string ⟨l.toArray⟩)∧Below B w w':=by
 obtain ⟨hB,v,hbk,hown,hne⟩:=h
 have hl0:l.length≠0:=by simpa using h0
 rw [Lib.byteCells_length] at hown
 obtain ⟨g,cap,cur,rfl,hbg,hg,hnc,hcm,hcs,htake⟩:∃ g cap cur,v=.slice (some ⟨g,0,none⟩) l.length cap∧B≤g∧w.heap[g]?=some (.cells cur 5 (0,0))∧l.length≤cap∧cap≤maxLen∧cur.size=cap*1∧cur.toList.take (l.length*1)=Lib.byteCells l:=by
  rcases hown.2 with ⟨_,hz⟩ | ⟨g,cap,cur,hv,r⟩
  ·exact absurd hz hl0
  ·exact ⟨g,cap,cur,hv,r⟩
 have c1:w.drew.cell? ⟨b,1,none⟩=some (.slice (some ⟨g,0,none⟩) l.length cap):=by
  have:w.drew.heap[b]?=some (.cells #[.pointer (some ⟨b,0,none⟩),.slice (some ⟨g,0,none⟩) l.length cap] 100 (0,0)):=hbk
  rw [Lib.cell_of_heap this];rfl
 have hSD:(Builtin.unsafeSliceData_ #[98] 174 #[.slice (some ⟨g,0,none⟩) l.length cap]).run Tryz.prog w.drew=.ok (.pointer (some ⟨g,0,none⟩)) w.drew :=
  Lib.run_unsafeSliceData_row _ _ _ _ _ _ (by omega)
 have hUS:(Builtin.unsafeString_ #[174,3] 9 #[.pointer (some ⟨g,0,none⟩),.int .i64 l.length]).run Tryz.prog w.drew=.ok (.string ⟨l.toArray⟩) (w.drew.freeze ⟨g,0,none⟩ l.length):=by
  refine Lib.run_unsafeString_row w.drew 174 3 9 5 Tryz.underlying174 (by kernel_rfl) g cur.size (by have hg':w.drew.heap[g]?=some (.cells cur 5 (0,0)):=hg;simp [World.shape?,hg']) l h0 (by omega) (by unfold maxLen at hcm;omega) ?_
  intro j x hx
  exact hown.cells (g:=g) rfl j (.int .u8 x.toNat) (by simp [Lib.byteCells,hx])
 go_enter Tryz.func45,Tryz.ntmps45
 go_wp2
 go_region
 all_goals (go_wp2;go_ret;exact ⟨rfl,Lib.below_freeze (Below.drew (Below.refl B w)) (p:=⟨g,0,none⟩) hbg _⟩)
theorem bld_below {B b:Nat} {p:Value} {bs:List Value} {w w':World} (h:Lib.BuilderAt 100 5 B b p bs w) (hb:Below w.heap.size w w'):Lib.BuilderAt 100 5 B b p bs w':=by
 have hlt:=h.lt
 obtain ⟨hB,v,hbk,hown,hne⟩:=h
 exact ⟨hB,v,(hb.block b hlt).trans hbk,owns_below hown hb,hne⟩
theorem bld_new (w:World) (o:Array Value) (ho:o=#[.pointer none,.slice none 0 0]):Lib.BuilderAt 100 5 w.heap.size w.heap.size (.pointer none) [] (w.alloc (.cells o 100)):=by
 subst ho
 refine ⟨Nat.le_refl _,.slice none 0 0,?_,World.ownsRow_nil _ _ _ _,by simp [Value.ownBlock]⟩
 show (w.heap.push _)[w.heap.size]?=_
 simp
theorem write_bytes (B b:Nat) (l s:List UInt8) (w:World) (h:Lib.IsBuilder 100 5 B b (Lib.byteCells l) w) (hlen:l.length+s.length≤140737488355328) (hBw:B≤w.heap.size) :
 Calls Tryz.prog 174 #[.pointer (some ⟨b,0,none⟩),.string ⟨s.toArray⟩] w fun e w'=>e=.returned (.tuple #[.int .i64 s.length,.nilIface])∧(Lib.BuilderAt 100 5 B b (.pointer (some ⟨b,0,none⟩)) (Lib.byteCells (l++s)) w'∧Below B w w'):=by
 have h1:=writeString_any B b (Lib.byteCells l) ⟨s.toArray⟩ w h (by rw [Lib.byteCells_length,ba_size];exact hlen) hBw
 rw [strCells_list,byteCells_append,ba_size] at h1
 exact h1
end Go.Proofs.YtkkenfhlgpjmjaaGreatDoor
namespace Go.Proofs.YtkkenfhlgpjmjaaGreatDoor
set_option maxRecDepth 100000
open Go.RowKit
set_option linter.unusedVariables false
structure FrW (B b:Nat) (W W':World):Prop where
 bel:Below B W W'
 blk:∀ x,x < W.heap.size→x≠b→(∀ c fr,W.heap[x]?≠some (.cells c 5 fr))→W'.heap[x]?=W.heap[x]?
def ApW (b:Nat) (W:World) (x:Nat):Prop:=x < W.heap.size∧x≠b∧∀ c fr,W.heap[x]?≠some (.cells c 5 fr)
section
variable {B b:Nat} {A W W':World}
theorem FrW.refl (B b:Nat) (W:World):FrW B b W W:=⟨Below.refl _ _,fun _ _ _ _=>rfl⟩
theorem FrW.trans (h:FrW B b A W) (k:FrW B b W W'):FrW B b A W':=by
 refine ⟨h.bel.trans k.bel,fun x hx hne h3=>?_⟩
 have e:=h.blk x hx hne h3
 exact (k.blk x (Nat.lt_of_lt_of_le hx h.bel.size) hne (fun c fr=>by rw [e];exact h3 c fr)).trans e
theorem FrW.below (h:Below W.heap.size W W') (hB:B≤W.heap.size):FrW B b W W':=⟨h.mono hB,fun x hx _ _=>h.block x hx⟩
theorem FrW.andBelow (h:FrW B b A W) (k:Below W.heap.size W W') (hB:B≤W.heap.size):FrW B b A W':=h.trans (FrW.below k hB)
theorem ApW.later {x:Nat} (h:ApW b W x) (k:FrW B b W W'):ApW b W' x∧W'.heap[x]?=W.heap[x]?:=by
 have e:=k.blk x h.1 h.2.1 h.2.2
 exact ⟨⟨Nat.lt_of_lt_of_le h.1 k.bel.size,h.2.1,fun c fr=>by rw [e];exact h.2.2 c fr⟩,e⟩
theorem ApW.cells {x:Nat} {c:Array Value} {t:TypeId} {fr:Nat × Nat} (h:W.heap[x]?=some (.cells c t fr)) (hne:x≠b) (ht:t≠5):ApW b W x :=
 ⟨(Array.getElem?_eq_some_iff.1 h).1,hne,fun c' fr' e=>by rw [h] at e;cases e;exact ht rfl⟩
end
abbrev TW:TypeId:=102
theorem bldW_below {B b:Nat} {bs:List Value} {w w':World} (h:Lib.IsBuilder TW 5 B b bs w) (hb:Below w.heap.size w w'):Lib.IsBuilder TW 5 B b bs w':=by
 have go:∀ p,Lib.BuilderAt TW 5 B b p bs w→Lib.BuilderAt TW 5 B b p bs w':=fun p h=>by
  have hlt:=h.lt
  obtain ⟨hB,v,hbk,hown,hne⟩:=h
  exact ⟨hB,v,(hb.block b hlt).trans hbk,owns_below hown hb,hne⟩
 rcases h with h | h
 ·exact .inl (go _ h)
 ·exact .inr (go _ h)
theorem bldW_lt {B b:Nat} {bs:List Value} {w:World} (h:Lib.IsBuilder TW 5 B b bs w):B≤b∧b < w.heap.size:=by
 rcases h with h | h
 ·exact ⟨h.1,h.lt⟩
 ·exact ⟨h.1,h.lt⟩
theorem bldW_new (w:World):Lib.IsBuilder TW 5 w.heap.size w.heap.size [] (w.alloc (.cells #[.pointer none,.slice none 0 0] TW)):=by
 refine .inl ⟨Nat.le_refl _,.slice none 0 0,?_,World.ownsRow_nil _ _ _ _,by simp [Value.ownBlock]⟩
 show (w.heap.push _)[w.heap.size]?=_
 simp
set_option maxHeartbeats 1000000 in
set_option maxRecDepth 100000 in
theorem copyW_fresh (b:Nat) (w:World) (h0:w.cell? ⟨b,0,none⟩=some (.pointer none)) (hsh:w.shape? b=some (TW,2)) (hfz:w.frozen? ⟨b,0,none⟩=false) :
 Calls Tryz.prog 234 #[.pointer (some ⟨b,0,none⟩)] w fun e w'=>e=.returned (.tuple #[])∧w'=w.setCell ⟨b,0,none⟩ (.pointer (some ⟨b,0,none⟩)):=by
 obtain ⟨j,hj,hjs⟩:=Option.map_eq_some_iff.1 bld_info
 have hto:=Lib.run_to_unsafe (P:=Tryz.prog) w ⟨b,0,none⟩ Tryz.underlying97 Tryz.underlying334 hj (by rw [hjs];decide) hsh (Nat.zero_lt_succ 1)
 have hfr:=Lib.run_from_unsafe (P:=Tryz.prog) w ⟨b,0,none⟩ Tryz.underlying334 Tryz.underlying97 hj hsh (by kernel_rfl)
 go_enter Tryz.func234,Tryz.ntmps234
 go_wp2
 rw [run_callFunc_extern Tryz.func279 (by kernel_rfl) (by kernel_rfl) (by kernel_rfl) (e:=Extern.AbiNoEscape.same) (by kernel_rfl)]
 rw [Lib.run_noEscape]
 simp only [Result.andThen]
 rw [Oper.upon_value]
 go_wp2
 go_end0
 exact ⟨rfl,rfl⟩
theorem copyW_any (B b:Nat) (bs:List Value) (w:World) (h:Lib.IsBuilder TW 5 B b bs w) :
 Calls Tryz.prog 234 #[.pointer (some ⟨b,0,none⟩)] w fun e w'=>e=.returned (.tuple #[])∧(Lib.BuilderAt TW 5 B b (.pointer (some ⟨b,0,none⟩)) bs w'∧FrW B b w w'):=by
 rcases h with h | h
 ·refine (copyW_fresh b w h.cell0 h.shape h.frozen0).mono ?_
  rintro e w' ⟨rfl,rfl⟩
  exact ⟨rfl,h.used _,(Below.refl B w).setCell (p:=⟨b,0,none⟩) h.1 _,fun x _ hne _=>Below.heap_setCell _ _ _ x hne⟩
 ·refine (copyCheck_used b w h.cell0).mono ?_
  rintro e w' ⟨rfl,rfl⟩
  exact ⟨rfl,h,FrW.refl B b _⟩
set_option maxHeartbeats 2000000 in
set_option maxRecDepth 100000 in
theorem writeW_any (B b:Nat) (bs:List Value) (s:ByteArray) (w:World) (h:Lib.IsBuilder TW 5 B b bs w) (hlen:bs.length+s.size≤140737488355328) (hBw:B≤w.heap.size) :
 Calls Tryz.prog 174 #[.pointer (some ⟨b,0,none⟩),.string s] w fun e w'=>e=.returned (.tuple #[.int .i64 s.size,.nilIface])∧(Lib.BuilderAt TW 5 B b (.pointer (some ⟨b,0,none⟩)) (bs++Lib.strCells s) w'∧FrW B b w w'):=by
 obtain ⟨i0,hi,hz0,hz1,hz2⟩:=info_parts byte_info
 go_enter Tryz.func174,Tryz.ntmps174
 go_wp2_with (go_at_call 234;refine (copyW_any B b bs _ h).mono ?_)
 rintro e w1 ⟨rfl,h1,hb1⟩
 obtain ⟨hB,v,hbk,hown,hne⟩:=h1
 have c0:w1.cell? ⟨b,0,none⟩=some (.pointer (some ⟨b,0,none⟩)):=by rw [Lib.cell_of_heap hbk];rfl
 have c1:w1.cell? ⟨b,1,none⟩=some v:=by rw [Lib.cell_of_heap hbk];rfl
 go_wp2_with (at_builtin;refine Lib.wpList_append_own_string _ rfl _ _ 98 9 rfl B 5 i0 Tryz.underlying98 Tryz.underlying9 hi hz0 hz1 hz2 _ _ _ rfl hown s rfl ?c3 ?c4 ?c5 ?_)
 case c3=>unfold maxLen;omega
 case c4=>omega
 case c5=>have:=hb1.bel.size;omega
 intro v' w2 hown' hgrow _
 have hlt:b < w1.heap.size:=by
  rcases Nat.lt_or_ge b w1.heap.size with h' | h'
  ·exact h'
  ·simp [Array.getElem?_eq_none h'] at hbk
 have hb2:w2.heap[b]?=some (.cells #[.pointer (some ⟨b,0,none⟩),v] TW (0,0)):=by
  rw [hgrow.block b hlt (fun e=>hne e.symm)]
  exact hbk
 have d0:w2.cell? ⟨b,0,none⟩=some (.pointer (some ⟨b,0,none⟩)):=by rw [Lib.cell_of_heap hb2];rfl
 have d1:w2.cell? ⟨b,1,none⟩=some v:=by rw [Lib.cell_of_heap hb2];rfl
 have f1:w2.frozen? ⟨b,1,none⟩=false:=Lib.frozen_of_heap hb2 1
 obtain ⟨ao,n',cap,rfl⟩:∃ ao n' cap,v'=.slice ao n' cap:=by
  rcases hown'.2 with ⟨hv,_⟩ | ⟨g,cap,cur,hv,_⟩
  ·exact ⟨_,_,_,hv⟩
  ·exact ⟨_,_,_,hv⟩
 go_wp2
 go_ret2
 refine ⟨rfl,?_,hb1.trans ⟨(((Below.refl B w1).grown hgrow (by have:=hb1.bel.size;omega) (fun k hk=>(hown.lt k hk).1)).setCell (p:=⟨b,1,none⟩) hB _),fun x hx hxb hxr=>?_⟩⟩
 ·exact Lib.BuilderAt.put (T:=TW) (e:=5) hB hb2 (bs':=bs++Lib.strCells s) (by simpa [Lib.strCells_length] using hown') (by decide)
 ·refine (Below.heap_setCell _ _ _ x hxb).trans (hgrow.block x hx (fun e=>?_))
  rcases hown.2 with ⟨hv,_⟩ | ⟨g,cap',cur,hv,_,hg,_⟩
  ·rw [hv] at e;cases e
  ·rw [hv] at e
   have e2:x=g:=by simpa [Value.ownBlock] using e
   exact hxr cur (0,0) (by rw [e2];exact hg)
theorem writeW (B b:Nat) (l s:List UInt8) (w:World) (h:Lib.IsBuilder TW 5 B b (Lib.byteCells l) w) (hlen:l.length+s.length≤140737488355328) (hBw:B≤w.heap.size) :
 Calls Tryz.prog 174 #[.pointer (some ⟨b,0,none⟩),.string ⟨s.toArray⟩] w fun e w'=>e=.returned (.tuple #[.int .i64 s.length,.nilIface])∧(Lib.IsBuilder TW 5 B b (Lib.byteCells (l++s)) w'∧FrW B b w w'):=by
 have h1:=writeW_any B b (Lib.byteCells l) ⟨s.toArray⟩ w h (by rw [Lib.byteCells_length,ba_size];exact hlen) hBw
 rw [strCells_list,byteCells_append,ba_size] at h1
 exact h1.mono fun _ _ ⟨a,b,c⟩=>⟨a,.inr b,c⟩
end Go.Proofs.YtkkenfhlgpjmjaaGreatDoor
namespace Go.Proofs.YtkkenfhlgpjmjaaGreatDoor
set_option maxRecDepth 100000
open Go.RowKit
attribute [local go_sem] ba_size ba_get ba_extract ba_append wrap_byte wrap_u64_byte take_drop_end
set_option maxHeartbeats 1000000 in
theorem row_any (a:Option Addr) (n cap:Nat) (ss:List (List UInt8)) (w:World) (h:IsStrs w a n ss) :
 Calls Tryz.prog 175 #[.slice a n cap] w fun e w'=>e=.returned (.tuple #[.string ⟨(Lm.rowL ss).1.toArray⟩,.int .i64 ((Lm.rowL ss).2:Int)])∧Below w.heap.size w w':=by
 by_cases hbig:65535 < n
 ·have e:Lm.rowL ss=([],4):=by
   unfold Lm.rowL;rw [if_neg];rw [Lm.rowOk_iff];have:=h.1;omega
  rw [e]
  obtain ⟨h1,h2,h3,h4⟩:=h
  have hn:n≤140737488351232:=h3
  go_enter Tryz.func175,Tryz.ntmps175
  go_wp2
  go_ret2
  exact ⟨rfl,Below.refl _ _⟩
 ·have HS:Hid (IsStrs w a n ss):=h
  have hsl:ss.length=n:=h.1
  have hn:n≤65535:=by omega
  have HL:Hid (ss.length=n):=hsl
  have hor:n=0∨∃ b off,0 < n∧a=some ⟨b,off,none⟩∧b < w.heap.size∧Hid (∀ i (h:i < ss.length),w.cell? ⟨b,off+i,none⟩=some (.string ⟨ss[i].toArray⟩)):=by
   rcases h.2.2.2 with h0 | ⟨b,off,ha,hlt,hc⟩
   ·exact .inl h0
   ·by_cases h0:n=0
    ·exact .inl h0
    ·exact .inr ⟨b,off,by omega,ha,hlt,hc⟩
  have HLe:Hid (∀ s∈ss,s.length≤140737488351232):=h.2.1
  clear hsl h HS
  have hni:(n:Int)≤65535:=by omega
  have HB:Hid (∀ k,(Lm.lenL n++Lm.body (ss.take k)).length≤3+65538*65535∨¬ ∀ t∈ss.take k,t.length≤65535):=by
   intro k
   by_cases hk:∀ t∈ss.take k,t.length≤65535
   ·left
    have h1:=Lm.body_length (ss.take k) hk
    have h2:=Lm.lenL_le n
    have h3:(ss.take k).length≤65535:=by have:=HL.out;simp;omega
    simp only [List.length_append];omega
   ·exact .inr hk
  rcases hor with rfl | ⟨b,off,hn0,rfl,hblt,HC⟩
  ·go_enter Tryz.func175,Tryz.ntmps175
   go_wp2_with fail
   refine (length_any 0 (by omega) _).mono ?_
   rintro e w1 ⟨rfl,hb1⟩
   go_wp2_with fail
   refine (write_bytes w.heap.size w.heap.size [] (Lm.lenL 0) _ (.inl (bld_below (bld_new w _ rfl) hb1)) (by simp [Lm.lenL]) (by have:=hb1.size;simp at this;omega)).mono ?_
   rintro e w2 ⟨rfl,hbl2,hb2⟩
   have hbw:Below w.heap.size w w2:=(((Below.refl _ _).alloc (Nat.le_refl _) _).trans (hb1.mono (by simp))).trans hb2
   have HBL:Hid (Lib.BuilderAt 100 5 w.heap.size w.heap.size (.pointer (some ⟨w.heap.size,0,none⟩)) (Lib.byteCells (Lm.lenL 0++Lm.body (ss.take 0))) w2):=by
    have h:=hbl2
    rw [List.nil_append] at h
    show Lib.BuilderAt _ _ _ _ _ _ _
    simpa [Lm.body] using h
   clear hbl2 hb2 hb1
   go_wp2_with fail
   go_loopw [17] (fun i wr=>∃ k:Nat,k≤0∧i=.int .i64 k∧(∀ t∈ss.take k,t.length≤65535)∧Hid (Lib.BuilderAt 100 5 w.heap.size w.heap.size (.pointer (some ⟨w.heap.size,0,none⟩)) (Lib.byteCells (Lm.lenL 0++Lm.body (ss.take k))) wr)∧Below w.heap.size w wr)
    (fun i _=>0 - (intOf i).toNat)
   case atStart=>exact ⟨0,Nat.zero_le _,rfl,by simp,HBL,hbw⟩
   case round =>
    obtain ⟨k,hk,rfl,hall,HBk,hbk⟩:=hrel
    obtain rfl:k=0:=by omega
    have hlt:¬ (0:Int) < 0:=by omega
    clear hlt
    have hall':∀ t∈ss,t.length≤65535:=by
     have e:ss.take 0=ss:=List.take_of_length_le (by have:=HL.out;omega)
     rwa [e] at hall
    have HF:Hid (Lm.rowL ss=(Lm.lenL 0++Lm.body (ss.take 0),0)):=by
     have e:ss.take 0=ss:=List.take_of_length_le (by have:=HL.out;omega)
     show Lm.rowL ss=_
     unfold Lm.rowL
     rw [if_pos ((Lm.rowOk_iff ss).2 ⟨by have:=HL.out;omega,hall'⟩),e,HL.out]
    have HNE:Hid (Lm.lenL 0++Lm.body (ss.take 0)≠[]):=by
     show _≠_
     have:=Lm.lenL_pos 0
     intro h;have h':=congrArg List.length h;rw [List.length_append,List.length_nil] at h';omega
    clear hall hall'
    go_wp2_with fail
    refine (string_any w.heap.size w.heap.size _ _ HBk.out HNE.out).mono ?_
    rintro e w4 ⟨rfl,hb4⟩
    go_wp2_with fail
    go_ret2
    refine ⟨?_,hbk.trans hb4⟩
    rw [HF.out]
    rfl
  ·go_enter Tryz.func175,Tryz.ntmps175
   go_wp2_with fail
   refine (length_any n hn _).mono ?_
   rintro e w1 ⟨rfl,hb1⟩
   go_wp2_with fail
   refine (write_bytes w.heap.size w.heap.size [] (Lm.lenL n) _ (.inl (bld_below (bld_new w _ rfl) hb1)) (by have:=Lm.lenL_le n;simp;omega) (by have:=hb1.size;simp at this;omega)).mono ?_
   rintro e w2 ⟨rfl,hbl2,hb2⟩
   have hbw:Below w.heap.size w w2:=(((Below.refl _ _).alloc (Nat.le_refl _) _).trans (hb1.mono (by simp))).trans hb2
   have HBL:Hid (Lib.BuilderAt 100 5 w.heap.size w.heap.size (.pointer (some ⟨w.heap.size,0,none⟩)) (Lib.byteCells (Lm.lenL n++Lm.body (ss.take 0))) w2):=by
    have h:=hbl2
    rw [List.nil_append] at h
    show Lib.BuilderAt _ _ _ _ _ _ _
    simpa [Lm.body] using h
   clear hbl2 hb2 hb1
   go_wp2_with fail
   go_loopw [17] (fun i wr=>∃ k:Nat,k≤n∧i=.int .i64 k∧(∀ t∈ss.take k,t.length≤65535)∧Hid (Lib.BuilderAt 100 5 w.heap.size w.heap.size (.pointer (some ⟨w.heap.size,0,none⟩)) (Lib.byteCells (Lm.lenL n++Lm.body (ss.take k))) wr)∧Below w.heap.size w wr)
    (fun i _=>n - (intOf i).toNat)
   case atStart=>exact ⟨0,Nat.zero_le _,rfl,by simp,HBL,hbw⟩
   case round =>
    obtain ⟨k,hk,rfl,hall,HBk,hbk⟩:=hrel
    by_cases hlt:k < n
    ·have hks:k < ss.length:=by have:=HL.out;omega
     have hcx:wr.cell? ⟨b,off+k,none⟩=some (.string ⟨ss[k].toArray⟩):=(hbk.cell (p:=⟨b,off+k,none⟩) hblt).trans (HC.out k hks)
     have hle:ss[k].length≤140737488351232:=HLe.out _ (List.getElem_mem hks)
     by_cases hkb:65535 < ss[k].length
     ·have HF:Hid (Lm.rowL ss=([],4)):=by
       show Lm.rowL ss=_
       unfold Lm.rowL
       rw [if_neg]
       rw [Lm.rowOk_iff]
       rintro ⟨-,h⟩
       have:=h _ (List.getElem_mem hks)
       omega
      go_wp2_with fail
      refine (text_big ss[k] (by omega) hkb _).mono ?_
      rintro e w3 ⟨rfl,hb3⟩
      go_wp2_with fail
      go_ret2
      refine ⟨?_,bel_trans hbk hb3⟩
      rw [HF.out]
      rfl
     ·have hln:(Lm.lenL n++Lm.body (ss.take k)).length≤3+65538*65535:=by
       rcases HB.out k with h | h
       ·exact h
       ·exact absurd hall h
      have HT:Hid (ss.take (k+1)=ss.take k++[ss[k]]):=List.take_succ_eq_append_getElem hks
      have hl3:=Lm.lenL_le ss[k].length
      have HLN:Hid ((Lm.lenL n++Lm.body (ss.take k)).length≤3+65538*65535):=hln
      have HALL:Hid (∀ t∈ss.take (k+1),t.length≤65535):=by
       show ∀ t∈ss.take (k+1),t.length≤65535
       rw [HT.out]
       intro t ht
       rcases List.mem_append.1 ht with h | h
       ·exact hall t h
       ·simp at h;subst h;omega
      clear hln hall
      go_wp2_with fail
      refine (text_ok ss[k] hkb _).mono ?_
      rintro e w3 ⟨rfl,hb3⟩
      go_wp2_with fail
      refine (write_bytes w.heap.size w.heap.size (Lm.lenL n++Lm.body (ss.take k)) (Lm.lenL ss[k].length++ss[k]) _ (.inr (bld_below HBk.out hb3)) (by have:=HLN.out;simp only [List.length_append] at this ⊢;omega) (by have:=hb3.size;have:=hbk.size;omega)).mono ?_
      rintro e w4 ⟨rfl,hbl4,hb4⟩
      have HBL4:Hid (Lib.BuilderAt 100 5 w.heap.size w.heap.size (.pointer (some ⟨w.heap.size,0,none⟩)) (Lib.byteCells (Lm.lenL n++Lm.body (ss.take (k+1)))) w4):=by
       show Lib.BuilderAt _ _ _ _ _ _ _
       rw [HT.out,Lm.body_snoc,← List.append_assoc]
       exact hbl4
      have hbk4:Below w.heap.size w w4:=(bel_trans hbk hb3).trans hb4
      clear hbl4 hb4 hb3
      go_wp2_with fail
      go_roundw
      case rel=>exact ⟨k+1,by omega,by go_num,HALL.out,HBL4,hbk4⟩
      case measure=>simp [intOf];omega
    ·obtain rfl:k=n:=by omega
     have hall':∀ t∈ss,t.length≤65535:=by
      have e:ss.take k=ss:=List.take_of_length_le (by have:=HL.out;omega)
      rwa [e] at hall
     have HF:Hid (Lm.rowL ss=(Lm.lenL k++Lm.body (ss.take k),0)):=by
      have e:ss.take k=ss:=List.take_of_length_le (by have:=HL.out;omega)
      show Lm.rowL ss=_
      unfold Lm.rowL
      rw [if_pos ((Lm.rowOk_iff ss).2 ⟨by have:=HL.out;omega,hall'⟩),e,HL.out]
     have HNE:Hid (Lm.lenL k++Lm.body (ss.take k)≠[]):=by
      show _≠_
      have:=Lm.lenL_pos k
      intro h;have h':=congrArg List.length h;rw [List.length_append,List.length_nil] at h';omega
     clear hall hall'
     go_wp2_with fail
     refine (string_any w.heap.size w.heap.size _ _ HBk.out HNE.out).mono ?_
     rintro e w4 ⟨rfl,hb4⟩
     go_wp2_with fail
     go_ret2
     refine ⟨?_,hbk.trans hb4⟩
     rw [HF.out]
     rfl
theorem row_good (a:Option Addr) (n cap:Nat) (ss:List (List UInt8)) (w:World) (h:IsStrs w a n ss) (hok:Lm.rowOk ss=true) :
 Calls Tryz.prog 175 #[.slice a n cap] w fun e w'=>e=.returned (.tuple #[.string ⟨(Lm.lenL n++Lm.body ss).toArray⟩,.int .i64 0])∧Below w.heap.size w w':=by
 have:=row_any a n cap ss w h
 unfold Lm.rowL at this
 rw [if_pos hok,h.1] at this
 exact this
end Go.Proofs.YtkkenfhlgpjmjaaGreatDoor
