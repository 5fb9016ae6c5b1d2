/-
  What Ring's loops say: in lists. Orders go forward, rings are closed: in lists. How much there is to judge, at most: in lists; rows: of no program. What cartouc
-/
import Derived.Test.YthamoeekiglphaaGreatDoorEL0c
import Derived.Deep.RegionHeld3
import Derived.Lib.ConvBytes
import Derived.Laws.AppendOwn
import Derived.KernelRfl
namespace Go.Proofs.YthamoeekiglphaaGreatDoor
set_option maxRecDepth 100000
open Go.RowKit
set_option linter.unusedVariables false
section
variable {α:Type}
theorem ringAt_none (l:List (Sp α)) (n:Nat) (h:∀ j (hj:j < (startsL l).length),wayB l (startsL l)[j] n (startsL l)[j]=false):ringAt l n=none:=by
 unfold ringAt;rw [List.find?_eq_none];intro s hs;obtain ⟨j,hj,rfl⟩:=List.getElem_of_mem hs;rw [h j hj];decide
theorem ringAt_some (l:List (Sp α)) (n k:Nat) (hk:k < (startsL l).length) (h:∀ j (hj:j < (startsL l).length),j < k→wayB l (startsL l)[j] n (startsL l)[j]=false) (hy:wayB l (startsL l)[k] n (startsL l)[k]=true):ringAt l n=some (startsL l)[k]:=by
 unfold ringAt;rw [List.find?_eq_some_iff_getElem];refine ⟨hy,k,hk,rfl,fun j hj=>?_⟩;rw [h j (by omega) hj];rfl
theorem ringL_none (l:List (Sp α)) (h:∀ j,1≤j→j≤(startsL l).length→ringAt l j=none):ringL l=none:=by
 have:ringN l=none:=by
  unfold ringN;rw [fi_none];intro i hi;rw [h (i+1) (by omega) (by omega)];rfl
 unfold ringL;rw [this]
theorem ringL_some (l:List (Sp α)) (n:Nat) (s:Int) (hn:n < (startsL l).length) (h:∀ j,1≤j→j < n+1→ringAt l j=none) (hs:ringAt l (n+1)=some s):ringL l=some (ringPath l s (n+1) s):=by
 have:ringN l=some n:=by
  unfold ringN;rw [fi_some];refine ⟨hn,by rw [hs];rfl,fun j hj=>?_⟩;rw [h (j+1) (by omega) (by omega)];rfl
 unfold ringL;rw [this];simp only;rw [hs]
theorem path_next (l:List (Sp α)) (to:Int) (q:Nat) (a:Int) (i:Nat) (hi:i < l.length) (h1:l[i].1=a) (h2:wayB l to q l[i].2.1=true) (h3:∀ j (hj:j < l.length),j < i→¬ (l[j].1=a∧wayB l to q l[j].2.1=true)):ringPath l to (q+1) a=l[i]::ringPath l to q l[i].2.1:=by
 rw [ringPath]
 have:(l.find? fun s=>decide (s.1=a)&&wayB l to q s.2.1)=some l[i]:=by
  rw [List.find?_eq_some_iff_getElem];refine ⟨by simp [h1,h2],i,hi,rfl,fun j hj=>?_⟩;have:=h3 j (by omega) hj
  by_cases e:l[j].1=a
  ·cases hw:wayB l to q l[j].2.1 with
   | true=>exact absurd ⟨e,hw⟩ this
   | false=>simp
  ·simp [e]
 rw [this]
theorem way_has (l:List (Sp α)) (to:Int) (q:Nat) (a:Int) (h:wayB l to (q+1) a=true):∃ i,∃ hi:i < l.length,l[i].1=a∧wayB l to q l[i].2.1=true:=by
 rw [wayB,List.any_eq_true] at h;obtain ⟨s,hs,h⟩:=h;obtain ⟨i,hi,rfl⟩:=List.getElem_of_mem hs;rw [Bool.and_eq_true,decide_eq_true_eq] at h;exact ⟨i,hi,h.1,h.2⟩
end
def PathS (l:List Stp) (s a:Int) (q:Nat) (P:List Stp) (k:Nat) (b:Bool) (i:Nat) (a':Int) (Q:List Stp) (kk:Nat):Prop :=
 (b=false∧a'=a∧Q=P∧kk=k∧∀ j (hj:j < l.length),j < i→¬ (l[j].1=a∧wayB l s q l[j].2.1=true))∨(b=true∧kk=k+1∧wayB l s q a'=true∧P++ringPath l s (q+1) a=Q++ringPath l s q a')
def RingRes (t:TypeId) (w:World) (r:Option (List Stp)) (e:Ending) (w':World):Prop:=∃ v L',e=.returned (.tuple #[v,.bool r.isSome])∧Below w.heap.size w w'∧w'.ownsRow w.heap.size t 3 v L'.length (recV stV L')∧StOf w' L' (r.getD [])
theorem StOf.nil (W:World):StOf W [] []:=⟨rfl,fun i x s h=>by simp at h⟩
theorem StOf.push {W:World} {L':List SVt} {L:List Stp} (h:StOf W L' L) (a b:Int) (u:Value) (E:List Ed) (hE:IsEds W u E):StOf W (L'++[(a,b,u)]) (L++[(a,b,E)]):=by
 refine ⟨by simp [h.1],fun i x s hx hs=>?_⟩;rcases Nat.lt_or_ge i L'.length with hi | hi
 ·rw [List.getElem?_append_left hi] at hx
  rw [List.getElem?_append_left (by rw [← h.1];exact hi)] at hs;exact h.2 i x s hx hs
 ·rw [List.getElem?_append_right hi] at hx
  rw [List.getElem?_append_right (by rw [← h.1];exact hi)] at hs;rw [h.1] at hx;rcases Nat.eq_zero_or_pos (i - L.length) with h0 | h0
  ·rw [h0] at hx hs
   simp only [List.getElem?_cons_zero,Option.some.injEq] at hx hs;subst hx hs;exact ⟨rfl,rfl,hE⟩
  ·rw [List.getElem?_eq_none (by simp;omega)] at hx
   cases hx
end Go.Proofs.YthamoeekiglphaaGreatDoor
namespace Go.Proofs.YthamoeekiglphaaGreatDoor
set_option maxRecDepth 100000
set_option linter.unusedVariables false
theorem ringL_few (l r:List Stp) (h:ringL l=some r):r.length≤l.length∨l=[]:=by
 by_cases h0:l=[]
 ·exact .inr h0
 ·left
  unfold ringL at h;cases hn:ringN l with
  | none=>rw [hn] at h;cases h
  | some n =>
    rw [hn] at h;simp only at h;cases hs:ringAt l (n+1) with
    | none=>rw [hs] at h;cases h
    | some s =>
      rw [hs] at h;simp only [Option.some.injEq] at h;have hlt:=((fi_some _ _ _).1 hn).1;have hp:=(path_ok l s (n+1) s (ring_at l (n+1) s hs).2.1).2.1;rw [← h,hp]
      have hst:(startsL l).length≤l.length:=by
       have g:∀ (m:List Stp) (acc:List Int),(startsF acc m).length≤acc.length+m.length:=by
        intro m
        induction m with
        | nil=>intro acc;rw [startsF];simp
        | cons x m ih =>
          intro acc;rw [startsF,List.length_cons];have:=ih (insI x.1 acc)
          have h2:∀ K:List Int,(insI x.1 K).length≤K.length+1:=by
           intro K
           induction K with
           | nil=>simp [insI]
           | cons y K ihK =>
             rw [insI]
             split
             ·simp;omega
             ·split<;>simp
          have:=h2 acc;omega
       have:=g l [];simpa [startsL] using this
      omega
theorem orderF_few (l:List Stp):∀ (n:Nat) (left o:List Int),orderF l n left=some o→o.length≤n
 | 0,left,o,h=>by
   rw [orderF] at h
   split at h
   ·cases h;simp
   ·cases h
 | n+1,left,o,h=>by
   rw [orderF] at h
   split at h
   ·cases h;simp
   ·cases hb:bestL l left with
    | none=>rw [hb] at h;cases h
    | some b =>
      rw [hb] at h;simp only at h;cases hr:orderF l n (left.filter fun x=>decide (x≠b)) with
      | none=>rw [hr] at h;cases h
      | some o' =>
        rw [hr] at h;simp only [Option.some.injEq] at h;have:=orderF_few l n _ o' hr;rw [← h];simp;omega
open Go.RowKit
attribute [local go_sem] ba_size
theorem stepOf_len12 (level:Int) (l:List Ed) (e:Ed):(stepOf level l e).length≤l.length+1:=by
 unfold stepOf;rw [List.length_append];have h1:(if level=1∨level=2∧e.1≠3 then [one1 e] else []).length≤1:=by split<;>simp
 have h2:(if level=2∧e.1≠3 then l.filterMap fun g=>if g.1=3∧g.2.1=e.2.2.1 then some (two2 e g) else none else []).length≤l.length:=by
  split
  ·exact List.length_filterMap_le _ _
  ·simp
 omega
theorem steps_len12 (level:Int) (l:List Ed):(stepsL level l).length≤l.length*(l.length+1):=by
 unfold stepsL;rw [List.length_flatMap];have h:=sum_le (fun e=>(stepOf level l e).length) (fun _=>l.length+1) l (fun e _=>stepOf_len12 level l e);rw [List.map_const',List.sum_replicate_nat] at h;exact h
theorem flat_len (level:Int) (l:List Ed) (r:List Stp) (h:∀ s∈r,s∈stepsL level l):(flatL r).length≤r.length*2:=by
 unfold flatL;rw [List.length_flatMap]
 have h:=sum_le (fun s:Stp=>s.2.2.length) (fun _=>2) r (fun s hs=>by
  rcases steps_cases level l s (h s hs) with ⟨e,_,_,rfl⟩ | ⟨_,e,_,g,_,hh⟩
  ·simp [one1]
  ·obtain ⟨_,_,_,rfl⟩:=hh
   simp [two2])
 rw [List.map_const',List.sum_replicate_nat] at h;exact h
theorem wf_bounds {h:List Ev} (hw:WF h) (level:Int):(edgesL h).length≤512∧(stepsL level (edgesL h)).length≤262656∧(nodeL h).length≤301∧(flatL ((ringL (stepsL level (edgesL h))).getD [])).length≤525312:=by
 have h0:=hw.1;have h1:=edges_few h;have e1:(edgesL h).length≤512:=by omega
 have h2:=steps_len12 level (edgesL h);have e2:(stepsL level (edgesL h)).length≤262656:=Nat.le_trans h2 (Nat.le_trans (Nat.mul_le_mul e1 (Nat.succ_le_succ e1)) (by decide));refine ⟨e1,e2,nd_len h 301,?_⟩;cases hr:ringL (stepsL level (edgesL h)) with
 | none=>simp [flatL]
 | some r =>
   simp only [Option.getD_some];have h3:=flat_len level (edgesL h) r (ring_some _ r hr).2.1;rcases ringL_few _ r hr with h4 | h4
   ·omega
   ·rw [h4] at hr;cases hr
theorem wf_keys {h:List Ev} (hw:WF h):∀ x∈h,x.2.2.1.length≤1125899906842624:=by
 intro x hx;obtain ⟨i,hi,rfl⟩:=List.getElem_of_mem hx;have hm:=wf_may hw hi;rw [ev_get h i hi] at hm;unfold mayE at hm;obtain ⟨_,hm⟩:=hm
 split at hm
 ·omega
 ·have:=hm.1
  rw [this];simp
theorem own_shape12 {W:World} {B e k n:Nat} {v:Value} {xs:List Value} (h:W.ownsRow B e k v n xs):∃ ad c,v=.slice ad n c:=by
 rcases h.2 with ⟨rfl,rfl⟩ | ⟨g,cap,cur,rfl,_⟩
 ·exact ⟨none,0,rfl⟩
 ·exact ⟨_,_,rfl⟩
theorem own_some12 {W:World} {B e k n:Nat} {v:Value} {xs:List Value} (h:W.ownsRow B e k v n xs) (h0:0 < n):∃ g cc,v=.slice (some ⟨g,0,none⟩) n cc∧n≤cc∧cc≤maxLen:=by
 rcases h.2 with ⟨_,h0'⟩ | ⟨g,cap,cur,rfl,_,_,h1,h2,_⟩
 ·omega
 ·exact ⟨g,cap,rfl,h1,h2⟩
theorem owns_base12 {W:World} {B C e k n:Nat} {v:Value} {xs:List Value} (h:W.ownsRow B e k v n xs) (hC:C≤B):W.ownsRow C e k v n xs:=by
 refine ⟨h.1,?_⟩;rcases h.2 with hh | ⟨g,cap,cur,hv,hb,hg,rest⟩
 ·exact .inl hh
 ·exact .inr ⟨g,cap,cur,hv,Nat.le_trans hC hb,hg,rest⟩
set_option maxHeartbeats 2000000 in
theorem rfirst_any (h:List Ev) (v:Value) (w:World) (hT:IsEvs w v h) (t:Int) (m:Nat) (hm:m≤h.length) :
 Calls Tryz.prog 50 #[v,.int .i64 t,.int .i64 (m:Int)] w fun e w'=>e=.returned (.int .i64 (oI (fstL h t m)))∧Below w.heap.size w w':=by
 obtain ⟨a,cap,rfl,h1,h2,h3,HC⟩:=hT.reads;obtain ⟨n,hn⟩:∃ n,h.length=n:=⟨_,rfl⟩;have HN:Hid (h.length=n):=hn;rw [hn] at h1 h3 hm ⊢;clear hT hn;go_enter Tryz.func50,Tryz.ntmps50
 go_wp2_with fail
 go_loopw [7] (fun i wr=>∃ k:Nat,k≤m∧i=.int .i64 k∧Hid (∀ j,j < k→ofTxn h t j=false)∧Below w.heap.size w wr) (fun i _=>m - (RowKit.intOf i).toNat)
 case atStart=>exact ⟨0,Nat.zero_le _,rfl,(fun j hj=>by omega),Below.refl _ _⟩
 case round =>
  obtain ⟨k,hk,rfl,HA,hbw⟩:=hrel
  by_cases hlt:k < m
  ·have hk1:k < h.length:=by have:=HN.out;omega
   have hkn:k < n:=by omega
   obtain ⟨bb,off,rfl,HQ⟩:=HC.out (by omega);obtain ⟨c0,c1,c2,c3⟩:=HQ.out k hk1 _ hbw;obtain ⟨⟨x0,x1,x2,x3⟩,hx⟩:∃ x,ev h k=x:=⟨_,rfl⟩;have HX:Hid (ev h k=(x0,x1,x2,x3)):=hx;rw [hx] at c0 c1 c2 c3;simp only at c0 c1 c2 c3;clear hx
   by_cases d:x1=t
   ·have e1:(x1==t)=true:=by rw [d];exact beq_self_eq_true _
    have HR:Hid (fstL h t m=some k):=(fi_some _ _ _).2 ⟨hlt,by show decide _=true;rw [HX.out];exact decide_eq_true (d),HA.out⟩;go_wp2_with fail
    go_ret
    exact ⟨by rw [HR.out];rfl,hbw⟩
   ·have e1:(x1==t)=false:=beq_eq_false_iff_ne.2 d
    have HA':Hid (∀ j,j < k+1→ofTxn h t j=false):=upto_next _ k HA.out (by show decide _=false;rw [HX.out];exact decide_eq_false (d));go_wp2_with fail
    refine ⟨?relrfirst_any1,?mearfirst_any1⟩
    case relrfirst_any1=>exact ⟨k+1,by omega,by first | go_num | simp,HA',hbw⟩
    case mearfirst_any1=>simp [RowKit.intOf];omega
  ·have HR:Hid (fstL h t m=none):=(fi_none _ _).2 (by
    obtain rfl:k=m:=by omega
    exact HA.out)
   go_wp2_with fail
   go_ret
   exact ⟨by rw [HR.out];rfl,hbw⟩
set_option maxHeartbeats 2000000 in
theorem rend_any (h:List Ev) (v:Value) (w:World) (hT:IsEvs w v h) (t:Int) (m:Nat) (hm:m≤h.length) :
 Calls Tryz.prog 51 #[v,.int .i64 t,.int .i64 (m:Int)] w fun e w'=>e=.returned (.int .i64 (oI (endL h t m)))∧Below w.heap.size w w':=by
 obtain ⟨a,cap,rfl,h1,h2,h3,HC⟩:=hT.reads;obtain ⟨n,hn⟩:∃ n,h.length=n:=⟨_,rfl⟩;have HN:Hid (h.length=n):=hn;rw [hn] at h1 h3 hm ⊢;clear hT hn;go_enter Tryz.func51,Tryz.ntmps51
 go_wp2_with fail
 go_loopw [7] (fun i wr=>∃ k:Nat,k≤m∧i=.int .i64 k∧Hid (∀ j,j < k→isEnd h t j=false)∧Below w.heap.size w wr) (fun i _=>m - (RowKit.intOf i).toNat)
 case atStart=>exact ⟨0,Nat.zero_le _,rfl,(fun j hj=>by omega),Below.refl _ _⟩
 case round =>
  obtain ⟨k,hk,rfl,HA,hbw⟩:=hrel
  by_cases hlt:k < m
  ·have hk1:k < h.length:=by have:=HN.out;omega
   have hkn:k < n:=by omega
   obtain ⟨bb,off,rfl,HQ⟩:=HC.out (by omega);obtain ⟨c0,c1,c2,c3⟩:=HQ.out k hk1 _ hbw;obtain ⟨⟨x0,x1,x2,x3⟩,hx⟩:∃ x,ev h k=x:=⟨_,rfl⟩;have HX:Hid (ev h k=(x0,x1,x2,x3)):=hx;rw [hx] at c0 c1 c2 c3;simp only at c0 c1 c2 c3;clear hx
   by_cases d:x1=t
   ·have e1:(x1==t)=true:=by rw [d];exact beq_self_eq_true _
    by_cases d4:x0=4
    ·have e4:(x0==4)=true:=by rw [d4];rfl
     have HR:Hid (endL h t m=some k):=(fi_some _ _ _).2 ⟨hlt,by show decide _=true;rw [HX.out];exact decide_eq_true (⟨d,Or.inl d4⟩),HA.out⟩;go_wp2_with fail
     go_ret
     exact ⟨by rw [HR.out];rfl,hbw⟩
    ·have e4:(x0==4)=false:=beq_eq_false_iff_ne.2 d4
     by_cases d5:x0=5
     ·have e5:(x0==5)=true:=by rw [d5];rfl
      have HR:Hid (endL h t m=some k):=(fi_some _ _ _).2 ⟨hlt,by show decide _=true;rw [HX.out];exact decide_eq_true (⟨d,Or.inr d5⟩),HA.out⟩;go_wp2_with fail
      go_ret
      exact ⟨by rw [HR.out];rfl,hbw⟩
     ·have e5:(x0==5)=false:=beq_eq_false_iff_ne.2 d5
      have HA':Hid (∀ j,j < k+1→isEnd h t j=false):=upto_next _ k HA.out (by show decide _=false;rw [HX.out];exact decide_eq_false (fun hh=>hh.2.elim d4 d5));go_wp2_with fail
      refine ⟨?relrend_any1,?mearend_any1⟩
      case relrend_any1=>exact ⟨k+1,by omega,by first | go_num | simp,HA',hbw⟩
      case mearend_any1=>simp [RowKit.intOf];omega
   ·have e1:(x1==t)=false:=beq_eq_false_iff_ne.2 d
    have HA':Hid (∀ j,j < k+1→isEnd h t j=false):=upto_next _ k HA.out (by show decide _=false;rw [HX.out];exact decide_eq_false (fun hh=>d hh.1));go_wp2_with fail
    refine ⟨?relrend_any2,?mearend_any2⟩
    case relrend_any2=>exact ⟨k+1,by omega,by first | go_num | simp,HA',hbw⟩
    case mearend_any2=>simp [RowKit.intOf];omega
  ·have HR:Hid (endL h t m=none):=(fi_none _ _).2 (by
    obtain rfl:k=m:=by omega
    exact HA.out)
   go_wp2_with fail
   go_ret
   exact ⟨by rw [HR.out];rfl,hbw⟩
set_option maxHeartbeats 2000000 in
theorem rwriter_any (h:List Ev) (v:Value) (w:World) (hT:IsEvs w v h) (key val:List UInt8) :
 Calls Tryz.prog 52 #[v,.string ⟨key.toArray⟩,.string ⟨val.toArray⟩] w fun e w'=>e=.returned (.int .i64 (oI (writerL h key val)))∧Below w.heap.size w w':=by
 obtain ⟨a,cap,rfl,h1,h2,h3,HC⟩:=hT.reads;obtain ⟨n,hn⟩:∃ n,h.length=n:=⟨_,rfl⟩;have HN:Hid (h.length=n):=hn;have HW:Hid (writerL h key val=fi (isWr h key val) n):=by show _=_;unfold writerL;rw [hn]
 rw [HW.out];rw [hn] at h1 h3 ⊢;clear hT hn;go_enter Tryz.func52,Tryz.ntmps52
 go_wp2_with fail
 go_loopw [7] (fun i wr=>∃ k:Nat,k≤n∧i=.int .i64 k∧Hid (∀ j,j < k→isWr h key val j=false)∧Below w.heap.size w wr) (fun i _=>n - (RowKit.intOf i).toNat)
 case atStart=>exact ⟨0,Nat.zero_le _,rfl,(fun j hj=>by omega),Below.refl _ _⟩
 case round =>
  obtain ⟨k,hk,rfl,HA,hbw⟩:=hrel
  by_cases hlt:k < n
  ·have hk1:k < h.length:=by have:=HN.out;omega
   have hkn:k < n:=by omega
   obtain ⟨bb,off,rfl,HQ⟩:=HC.out (by omega);obtain ⟨c0,c1,c2,c3⟩:=HQ.out k hk1 _ hbw;obtain ⟨⟨x0,x1,x2,x3⟩,hx⟩:∃ x,ev h k=x:=⟨_,rfl⟩;have HX:Hid (ev h k=(x0,x1,x2,x3)):=hx;rw [hx] at c0 c1 c2 c3;simp only at c0 c1 c2 c3;clear hx
   by_cases d:x0=3
   ·have e1:(x0==3)=true:=by rw [d];rfl
    by_cases d4:x2=key
    ·have e4:(x2==key)=true:=by rw [d4];exact beq_self_eq_true _
     by_cases d5:x3=val
     ·have e5:(x3==val)=true:=by rw [d5];exact beq_self_eq_true _
      have HR:Hid (fi (isWr h key val) n=some k):=(fi_some _ _ _).2 ⟨hlt,by show decide _=true;rw [HX.out];exact decide_eq_true (⟨d,d4,d5⟩),HA.out⟩;go_wp2_with fail
      go_ret
      exact ⟨by rw [HR.out];rfl,hbw⟩
     ·have e5:(x3==val)=false:=beq_eq_false_iff_ne.2 d5
      have HA':Hid (∀ j,j < k+1→isWr h key val j=false):=upto_next _ k HA.out (by show decide _=false;rw [HX.out];exact decide_eq_false (fun hh=>d5 hh.2.2));go_wp2_with fail
      refine ⟨?relrwriter_any1,?mearwriter_any1⟩
      case relrwriter_any1=>exact ⟨k+1,by omega,by first | go_num | simp,HA',hbw⟩
      case mearwriter_any1=>simp [RowKit.intOf];omega
    ·have e4:(x2==key)=false:=beq_eq_false_iff_ne.2 d4
     have HA':Hid (∀ j,j < k+1→isWr h key val j=false):=upto_next _ k HA.out (by show decide _=false;rw [HX.out];exact decide_eq_false (fun hh=>d4 hh.2.1));go_wp2_with fail
     refine ⟨?relrwriter_any2,?mearwriter_any2⟩
     case relrwriter_any2=>exact ⟨k+1,by omega,by first | go_num | simp,HA',hbw⟩
     case mearwriter_any2=>simp [RowKit.intOf];omega
   ·have e1:(x0==3)=false:=beq_eq_false_iff_ne.2 d
    have HA':Hid (∀ j,j < k+1→isWr h key val j=false):=upto_next _ k HA.out (by show decide _=false;rw [HX.out];exact decide_eq_false (fun hh=>d hh.1));go_wp2_with fail
    refine ⟨?relrwriter_any3,?mearwriter_any3⟩
    case relrwriter_any3=>exact ⟨k+1,by omega,by first | go_num | simp,HA',hbw⟩
    case mearwriter_any3=>simp [RowKit.intOf];omega
  ·have HR:Hid (fi (isWr h key val) n=none):=(fi_none _ _).2 (by
    obtain rfl:k=n:=by omega
    exact HA.out)
   go_wp2_with fail
   go_ret
   exact ⟨by rw [HR.out];rfl,hbw⟩
theorem ne_empty' (l:List UInt8) (h:l≠[]):l.isEmpty=false:=by cases l with
 | nil=>exact absurd rfl h
 | cons _ _=>rfl
set_option maxHeartbeats 1000000 in
theorem rmay_any (k t:Int) (a b:List UInt8) (w:World) :
 Calls Tryz.prog 31 #[.agg #[.int .i64 k,.int .i64 t,.string ⟨a.toArray⟩,.string ⟨b.toArray⟩]] w fun e w'=>e=.returned (.bool (decide (mayE (k,t,a,b))))∧Below w.heap.size w w':=by
 have al:∀ o,Below w.heap.size w (w.alloc o):=fun o=>(Below.refl _ w).alloc (Nat.le_refl _) o
 by_cases c0:k < 1
 ·rw [decide_eq_false (show ¬ mayE _ from fun h=>by have h:=mayE_range h;omega)]
  go_enter Tryz.func31,Tryz.ntmps31
  go_wp2_with fail
  go_ret
  exact ⟨rfl,al _⟩
 ·have c0':¬ k < 1:=c0
  by_cases c1:5 < k
  ·rw [decide_eq_false (show ¬ mayE _ from fun h=>by have h:=mayE_range h;omega)]
   go_enter Tryz.func31,Tryz.ntmps31
   go_wp2_with fail
   go_ret
   exact ⟨rfl,al _⟩
  ·have c1':¬ 5 < k:=c1
   by_cases c2:t < 1
   ·rw [decide_eq_false (show ¬ mayE _ from fun h=>by have h:=mayE_range h;omega)]
    go_enter Tryz.func31,Tryz.ntmps31
    go_wp2_with fail
    go_ret
    exact ⟨rfl,al _⟩
   ·have c2':¬ t < 1:=c2
    by_cases c3:32 < t
    ·rw [decide_eq_false (show ¬ mayE _ from fun h=>by have h:=mayE_range h;omega)]
     go_enter Tryz.func31,Tryz.ntmps31
     go_wp2_with fail
     go_ret
     exact ⟨rfl,al _⟩
    ·have c3':¬ 32 < t:=c3
     by_cases u1:k=2∨k=3
     ·have q1:k=2∨k=3:=u1
      by_cases d1:a.length < 1
      ·have j1:(a.length:Int) < 1:=by omega
       rw [decide_eq_false (show ¬ mayE _ from fun h=>by have h:=(mayE_key u1).1 h;omega)];rcases u1 with rfl | rfl
       all_goals
        go_enter Tryz.func31,Tryz.ntmps31
        go_wp2_with fail
        go_ret
        exact ⟨rfl,al _⟩
      ·have j1:¬ (a.length:Int) < 1:=by omega
       by_cases d2:32 < a.length
       ·have j2:(32:Int) < (a.length:Int):=by omega
        rw [decide_eq_false (show ¬ mayE _ from fun h=>by have h:=(mayE_key u1).1 h;omega)];rcases u1 with rfl | rfl
        all_goals
         go_enter Tryz.func31,Tryz.ntmps31
         go_wp2_with fail
         go_ret
         exact ⟨rfl,al _⟩
       ·have j2:¬ (32:Int) < (a.length:Int):=by omega
        by_cases d3:32 < b.length
        ·have j3:(32:Int) < (b.length:Int):=by omega
         rw [decide_eq_false (show ¬ mayE _ from fun h=>by have h:=(mayE_key u1).1 h;omega)];rcases u1 with rfl | rfl
         all_goals
          go_enter Tryz.func31,Tryz.ntmps31
          go_wp2_with fail
          go_ret
          exact ⟨rfl,al _⟩
        ·have j3:¬ (32:Int) < (b.length:Int):=by omega
         rcases u1 with rfl | rfl
         ·rw [decide_eq_true (show mayE _ from by rw [mayE_key q1];omega)]
          go_enter Tryz.func31,Tryz.ntmps31
          go_wp2_with fail
          go_ret
          exact ⟨rfl,al _⟩
         ·by_cases d4:0 < b.length
          ·have j4:(0:Int) < (b.length:Int):=by omega
           rw [decide_eq_true (show mayE _ from by rw [mayE_key q1];omega)];go_enter Tryz.func31,Tryz.ntmps31
           go_wp2_with fail
           go_ret
           exact ⟨rfl,al _⟩
          ·have j4:¬ (0:Int) < (b.length:Int):=by omega
           rw [decide_eq_false (show ¬ mayE _ from fun h=>by have h:=(mayE_key q1).1 h;omega)];go_enter Tryz.func31,Tryz.ntmps31
           go_wp2_with fail
           go_ret
           exact ⟨rfl,al _⟩
     ·have q1:(k != 2)=true:=by rw [bne_iff_ne];omega
      have q2:(k != 3)=true:=by rw [bne_iff_ne];omega
      by_cases d1:a=[]
      ·by_cases d2:b=[]
       ·rw [decide_eq_true (show mayE _ from by rw [mayE_unkey u1];exact ⟨by omega,d1,d2⟩)]
        subst d1 d2;go_enter Tryz.func31,Tryz.ntmps31
        go_wp2_with fail
        go_ret
        exact ⟨rfl,al _⟩
       ·rw [decide_eq_false (show ¬ mayE _ from fun h=>by exact d2 ((mayE_unkey u1).1 h).2.2)]
        have n2:=ne_empty' b d2;subst d1;go_enter Tryz.func31,Tryz.ntmps31
        go_wp2_with fail
        go_ret
        exact ⟨rfl,al _⟩
      ·rw [decide_eq_false (show ¬ mayE _ from fun h=>by exact d1 ((mayE_unkey u1).1 h).2.1)]
       have n1:=ne_empty' a d1;go_enter Tryz.func31,Tryz.ntmps31
       go_wp2_with fail
       go_ret
       exact ⟨rfl,al _⟩
set_option maxHeartbeats 2000000 in
theorem rcounts_any (h:List Ev) (v:Value) (w:World) (hT:IsEvs w v h) (i:Int) :
 Calls Tryz.prog 118 #[v,.int .i64 i] w fun e w'=>e=.returned (.bool (countI h i))∧Below w.heap.size w w':=by
 have C1:=fun (t:Int) W hW=>rend_any h v W (hT.below (w':=W) hW) t h.length (Nat.le_refl _)
 obtain ⟨a,cap,rfl,h1,h2,h3,HC⟩:=hT.reads;obtain ⟨n,hn⟩:∃ n,h.length=n:=⟨_,rfl⟩;have HN:Hid (h.length=n):=hn;simp only [hn] at C1;rw [hn] at h1 h3 ⊢;clear hT hn
 by_cases i0:i < 0
 ·rw [show countI h i=false by unfold countI;rw [decide_eq_false (by omega)];rfl]
  go_enter Tryz.func118,Tryz.ntmps118
  go_wp2_with fail
  go_ret
  exact ⟨rfl,Below.refl _ _⟩
 ·obtain ⟨q,rfl⟩:∃ q:Nat,i=(q:Int):=⟨i.toNat,by omega⟩
  have HQQ:Hid (countI h (q:Int)=countsB h q):=by show _=_;unfold countI;rw [decide_eq_true (by omega)];simp
  by_cases i1:q < n
  ·have hq1:q < h.length:=by have:=HN.out;omega
   have j1:¬ (n:Int)≤(q:Int):=by omega
   have j11:¬ n≤q:=by omega
   obtain ⟨bb,off,rfl,HQ⟩:=HC.out (by omega);obtain ⟨c0,c1,_,_⟩:=HQ.out q hq1 _ (Below.refl _ _);obtain ⟨⟨x0,x1,x2,x3⟩,hx⟩:∃ x,ev h q=x:=⟨_,rfl⟩;have HX:Hid (ev h q=(x0,x1,x2,x3)):=hx;rw [hx] at c0 c1;simp only at c0 c1;clear hx
   by_cases d:x0=2
   ·have e2:(x0 != 2)=false:=by rw [d];rfl
    have D:=C1 x1;rcases he:endL h x1 n with _ | e
    ·rw [HQQ.out,count_open h q (by rw [HX.out,HN.out];exact he)]
     rw [he] at D;simp only [oI] at D;have j2:¬ (q:Int) < -1:=by omega
     clear he d;go_enter Tryz.func118,Tryz.ntmps118
     go_wp2_with fail
     refine (D _ (Below.refl _ _)).mono ?_;rintro e w1 ⟨rfl,b1⟩;go_wp2_with fail
     go_ret
     exact ⟨rfl,b1⟩
    ·have hel:e < h.length:=by have:=((fi_some _ _ _).1 he).1;have:=HN.out;omega
     have HCE:Hid (countsB h q=(decide (q < e)&&decide ((ev h e).1=4))):=count_end h q e hq1 (by rw [HX.out];exact d) (by rw [HX.out,HN.out];exact he);rw [HQQ.out,HCE.out];rw [he] at D;simp only [oI] at D;have HE:Hid (e < h.length):=hel;have hen:e < n:=by have:=HN.out;omega
     clear he d hel
     by_cases l1:q < e
     ·have l2:(q:Int) < (e:Int):=by omega
      rw [decide_eq_true l1];obtain ⟨z0,hz⟩:∃ z,(ev h e).1=z:=⟨_,rfl⟩;have HZ:Hid ((ev h e).1=z0):=hz;rw [hz];clear hz
      by_cases l3:z0=4
      ·have l4:(z0==4)=true:=by rw [l3];rfl
       rw [decide_eq_true l3];clear l3;go_enter Tryz.func118,Tryz.ntmps118
       go_wp2_with fail
       refine (D _ (Below.refl _ _)).mono ?_;rintro e' w1 ⟨rfl,b1⟩;have m0:=(HQ.out e HE.out _ b1).1;rw [HZ.out] at m0;go_wp2_with fail
       go_ret
       exact ⟨rfl,b1⟩
      ·have l4:(z0==4)=false:=beq_eq_false_iff_ne.2 l3
       rw [decide_eq_false l3];go_enter Tryz.func118,Tryz.ntmps118
       go_wp2_with fail
       refine (D _ (Below.refl _ _)).mono ?_;rintro e' w1 ⟨rfl,b1⟩;have m0:=(HQ.out e HE.out _ b1).1;rw [HZ.out] at m0;go_wp2_with fail
       go_ret
       exact ⟨rfl,b1⟩
     ·have l2:¬ (q:Int) < (e:Int):=by omega
      rw [decide_eq_false l1,Bool.false_and];go_enter Tryz.func118,Tryz.ntmps118
      go_wp2_with fail
      refine (D _ (Below.refl _ _)).mono ?_;rintro e' w1 ⟨rfl,b1⟩;go_wp2_with fail
      go_ret
      exact ⟨rfl,b1⟩
   ·have e2:(x0 != 2)=true:=bne_iff_ne.2 d
    rw [HQQ.out,count_kind h q (by rw [HX.out];exact d)];go_enter Tryz.func118,Tryz.ntmps118
    go_wp2_with fail
    go_ret
    exact ⟨rfl,Below.refl _ _⟩
  ·have j1:(n:Int)≤(q:Int):=by omega
   have j11:n≤q:=by omega
   rw [HQQ.out,count_out h q (by have:=HN.out;omega)];go_enter Tryz.func118,Tryz.ntmps118
   go_wp2_with fail
   go_ret
   exact ⟨rfl,Below.refl _ _⟩
set_option maxHeartbeats 2000000 in
theorem rlast_any (h:List Ev) (v:Value) (w:World) (hT:IsEvs w v h) (t:Int) (key:List UInt8) (before:Int) :
 Calls Tryz.prog 119 #[v,.int .i64 t,.string ⟨key.toArray⟩,.int .i64 before] w fun e w'=>e=.returned (.int .i64 (oI (lastL h t key before)))∧Below w.heap.size w w':=by
 obtain ⟨a,cap,rfl,h1,h2,h3,HC⟩:=hT.reads;obtain ⟨n,hn⟩:∃ n,h.length=n:=⟨_,rfl⟩;have HN:Hid (h.length=n):=hn;rw [hn] at h1 h3 ⊢;clear hT hn;go_enter Tryz.func119,Tryz.ntmps119
 go_wp2_with fail
 go_loopw [9,10] (fun o i wr=>∃ k:Nat,k≤n∧(k=0∨(k:Int)≤before)∧o=.int .i64 (oI (lastN h t key k))∧i=.int .i64 k∧Below w.heap.size w wr) (fun _ i _=>n - (RowKit.intOf i).toNat)
 case atStart=>exact ⟨0,Nat.zero_le _,Or.inl rfl,rfl,rfl,Below.refl _ _⟩
 case round =>
  obtain ⟨k,hk,hkb,rfl,rfl,hbw⟩:=hrel
  by_cases hlt:k < n
  ·by_cases hlb:(k:Int) < before
   ·have hk1:k < h.length:=by have:=HN.out;omega
    obtain ⟨bb,off,rfl,HQ⟩:=HC.out (by omega);obtain ⟨c0,c1,c2,c3⟩:=HQ.out k hk1 _ hbw;obtain ⟨⟨x0,x1,x2,x3⟩,hx⟩:∃ x,ev h k=x:=⟨_,rfl⟩;have HX:Hid (ev h k=(x0,x1,x2,x3)):=hx;rw [hx] at c0 c1 c2 c3;simp only at c0 c1 c2 c3;clear hx
    by_cases d:x0=3
    ·have e1:(x0==3)=true:=by rw [d];rfl
     by_cases d4:x1=t
     ·have e4:(x1==t)=true:=by rw [d4];exact beq_self_eq_true _
      by_cases d5:x2=key
      ·have e5:(x2==key)=true:=by rw [d5];exact beq_self_eq_true _
       have HS:Hid (lastN h t key (k+1)=some k):=by
        show la (isWrT h t key) (k+1)=_;rw [la,show isWrT h t key k=true by show decide _=true;rw [HX.out];exact decide_eq_true (⟨d,d4,d5⟩)];rfl
       go_wp2_with fail
       refine ⟨?relA,?meaA⟩
       case relA=>exact ⟨k+1,by omega,by omega,by rw [HS.out]<;>rfl,by first | go_num | simp,hbw⟩
       case meaA=>simp [RowKit.intOf];omega
      ·have e5:(x2==key)=false:=beq_eq_false_iff_ne.2 d5
       have HS:Hid (lastN h t key (k+1)=lastN h t key k):=by
        show la (isWrT h t key) (k+1)=_;rw [la,show isWrT h t key k=false by show decide _=false;rw [HX.out];exact decide_eq_false (fun hh=>d5 hh.2.2)];rfl
       go_wp2_with fail
       refine ⟨?relB,?meaB⟩
       case relB=>exact ⟨k+1,by omega,by omega,by rw [HS.out]<;>rfl,by first | go_num | simp,hbw⟩
       case meaB=>simp [RowKit.intOf];omega
     ·have e4:(x1==t)=false:=beq_eq_false_iff_ne.2 d4
      have HS:Hid (lastN h t key (k+1)=lastN h t key k):=by
       show la (isWrT h t key) (k+1)=_;rw [la,show isWrT h t key k=false by show decide _=false;rw [HX.out];exact decide_eq_false (fun hh=>d4 hh.2.1)];rfl
      go_wp2_with fail
      refine ⟨?relC,?meaC⟩
      case relC=>exact ⟨k+1,by omega,by omega,by rw [HS.out]<;>rfl,by first | go_num | simp,hbw⟩
      case meaC=>simp [RowKit.intOf];omega
    ·have e1:(x0==3)=false:=beq_eq_false_iff_ne.2 d
     have HS:Hid (lastN h t key (k+1)=lastN h t key k):=by
      show la (isWrT h t key) (k+1)=_;rw [la,show isWrT h t key k=false by show decide _=false;rw [HX.out];exact decide_eq_false (fun hh=>d hh.1)];rfl
     go_wp2_with fail
     refine ⟨?relD,?meaD⟩
     case relD=>exact ⟨k+1,by omega,by omega,by rw [HS.out]<;>rfl,by first | go_num | simp,hbw⟩
     case meaD=>simp [RowKit.intOf];omega
   ·have HR:Hid (lastL h t key before=lastN h t key k):=last_end h t key before k (by have:=HN.out;omega) hkb (Or.inr (by omega))
    go_wp2_with fail
    go_ret
    exact ⟨by rw [HR.out];rfl,hbw⟩
  ·have HR:Hid (lastL h t key before=lastN h t key k):=last_end h t key before k (by have:=HN.out;omega) hkb (Or.inl (by have:=HN.out;omega))
   go_wp2_with fail
   go_ret
   exact ⟨by rw [HR.out];rfl,hbw⟩
theorem bads_len (h:List Ev):(badsL h).length≤h.length:=by
 unfold badsL;have:=List.length_filterMap_le (fun i=>if (atL h i).1=0 then none else some (atL h i)) (List.range h.length);rw [List.length_range] at this;exact this
attribute [local go_sem] ba_size ba_get
set_option maxHeartbeats 2000000 in
theorem rless_any (a b:List UInt8) (ha:a.length≤9223372036854775807) (hb:b.length≤9223372036854775807) (w:World) :
 Calls Tryz.prog 120 #[.string ⟨a.toArray⟩,.string ⟨b.toArray⟩] w fun e w'=>e=.returned (.bool (lessB a b))∧Below w.heap.size w w':=by
 obtain ⟨O,hO⟩:∃ O,lessB a b=O:=⟨_,rfl⟩;rw [hO];have H0:Hid (lessB (a.drop 0) (b.drop 0)=O):=hO;clear hO;go_enter Tryz.func120,Tryz.ntmps120
 go_wp2_with fail
 go_loopw [5] (fun i wr=>∃ k:Nat,k≤a.length∧k≤b.length∧i=.int .i64 k∧Hid (lessB (a.drop k) (b.drop k)=O)∧Below w.heap.size w wr) (fun i _=>a.length - (RowKit.intOf i).toNat)
 case atStart=>exact ⟨0,Nat.zero_le _,Nat.zero_le _,rfl,H0,Below.refl _ _⟩
 case round =>
  obtain ⟨k,hka,hkb,rfl,HK,hbw⟩:=hrel
  by_cases hla:k < a.length
  ·by_cases hlb:k < b.length
   ·have HD:Hid (lessB (a[k]::a.drop (k+1)) (b[k]::b.drop (k+1))=O):=by
     have:=HK.out;rw [List.drop_eq_getElem_cons hla,List.drop_eq_getElem_cons hlb] at this;exact this
    obtain ⟨x,hx⟩:∃ x,a[k]=x:=⟨_,rfl⟩;obtain ⟨y,hy⟩:∃ y,b[k]=y:=⟨_,rfl⟩;rw [hx,hy] at HD;have i1:(k:Int) < (a.length:Int):=by omega
    have i2:(k:Int) < (b.length:Int):=by omega
    by_cases d:x=y
    ·have HD':Hid (lessB (a.drop (k+1)) (b.drop (k+1))=O):=by
      have:=HD.out;rw [lessB_same x y _ _ d] at this;exact this
     have e1:((x.toNat:Int) != (y.toNat:Int))=false:=by rw [d];simp
     go_wp2_with fail
     go_quiet (fail)
     go_wp2_with fail
     refine ⟨?relA,?meaA⟩
     case relA=>exact ⟨k+1,by omega,by omega,by first | go_num | simp,HD',below_drewN hbw _⟩
     case meaA=>simp [RowKit.intOf];omega
    ·have HR:Hid (O=decide (x.toNat < y.toNat)):=by
      have:=HD.out;rw [lessB_diff x y _ _ d] at this;exact this.symm
     have e1:((x.toNat:Int) != (y.toNat:Int))=true:=bne_iff_ne.2 (fun hh=>d (UInt8.toNat_inj.1 (by omega)));go_wp2_with fail
     go_quiet (fail)
     go_wp2_with fail
     go_quiet (fail)
     go_wp2_with fail
     go_ret
     exact ⟨by rw [HR.out];rfl,below_drewN (below_drewN hbw _) _⟩
   ·have HR:Hid (O=decide (a.length < b.length)):=by
     have:=HK.out;have hb0:b.drop k=[]:=List.drop_eq_nil_of_le (by omega);rw [List.drop_eq_getElem_cons hla,hb0,lessB_cons_nil] at this;show O=_;rw [← this,decide_eq_false (by omega)]
    have i1:(k:Int) < (a.length:Int):=by omega
    have i2:¬ (k:Int) < (b.length:Int):=by omega
    go_wp2_with fail
    go_ret
    exact ⟨by rw [HR.out];rfl,hbw⟩
  ·have HR:Hid (O=decide (a.length < b.length)):=by
    have:=HK.out;have ha0:a.drop k=[]:=List.drop_eq_nil_of_le (by omega);rw [ha0,lessB_nil,List.length_drop] at this;show O=_;rw [← this,decide_eq_decide];omega
   have i1:¬ (k:Int) < (a.length:Int):=by omega
   go_wp2_with fail
   go_ret
   exact ⟨by rw [HR.out];rfl,hbw⟩
end Go.Proofs.YthamoeekiglphaaGreatDoor
namespace Go.Proofs.YthamoeekiglphaaGreatDoor
set_option maxRecDepth 100000
open Go.RowKit
set_option linter.unusedVariables false
attribute [local go_sem] ba_size
theorem vers_next (h:List Ev) (key:List UInt8) (k:Nat):(List.range (k+1)).filterMap (verOf h key)=(List.range k).filterMap (verOf h key)++(verOf h key k).toList:=by
 rw [List.range_succ,List.filterMap_append];cases hl:verOf h key k with
 | none=>simp [hl]
 | some x=>simp [hl]
set_option maxHeartbeats 2000000 in
theorem rvers_any (h:List Ev) (v:Value) (w:World) (hT:IsEvs w v h) (hle:h.length≤300) (key:List UInt8) :
 Calls Tryz.prog 94 #[v,.string ⟨key.toArray⟩] w fun e w'=>InRow w ((versL h key).map Int.ofNat) e w':=by
 obtain ⟨i0,hi,hz0,hz1,hz2⟩:=info_parts int_info;have C1:=fun (t:Int) W hW=>rend_any h v W (hT.below (w':=W) hW) t h.length (Nat.le_refl _)
 have C2:=fun (t:Int) (i:Int) W hW=>rlast_any h v W (hT.below (w':=W) hW) t key i
 obtain ⟨a,cap,rfl,h1,h2,h3,HC⟩:=hT.reads;obtain ⟨n,hn⟩:∃ n,h.length=n:=⟨_,rfl⟩;have HN:Hid (h.length=n):=hn;rw [hn] at h1 h3 hle C1;simp only [hn] at C2;rw [hn];clear hT hn;go_enter Tryz.func94,Tryz.ntmps94
 go_wp2_with fail
 go_loopw [5,6] (fun r i wr=>∃ (k c:Nat),k≤n∧c≤k∧i=.int .i64 k∧Hid (((List.range k).filterMap (verOf h key)).length=c)∧Below w.heap.size w wr∧wr.ownsRow w.heap.size 3 1 r c (recV intV (((List.range k).filterMap (verOf h key)).map Int.ofNat))) (fun _ i _=>n - (RowKit.intOf i).toNat)
 case atStart=>exact ⟨0,0,Nat.zero_le _,Nat.zero_le _,rfl,rfl,Below.refl _ _,World.ownsRow_nil _ _ _ _⟩
 case round =>
  obtain ⟨k,c,hk,hc,rfl,HL,hbw,hrow⟩:=hrel
  by_cases hlt:k < n
  ·have hk1:k < h.length:=by have:=HN.out;omega
   obtain ⟨bb,off,rfl,HQ⟩:=HC.out (by omega);obtain ⟨c0,c1,c2,c3⟩:=HQ.out k hk1 _ hbw;obtain ⟨⟨x0,x1,x2,x3⟩,hx⟩:∃ x,ev h k=x:=⟨_,rfl⟩;have HX:Hid (ev h k=(x0,x1,x2,x3)):=hx;rw [hx] at c0 c1 c2 c3;simp only at c0 c1 c2 c3;clear hx;have D1:=C1 x1;have D2:=C2 x1 (k:Int);rw [last_upto h x1 key k (by omega)] at D2
   by_cases d:x0=4
   ·have e4:(x0 != 4)=false:=by rw [d];rfl
    by_cases d5:endL h x1 n=some k
    ·rw [d5] at D1
     simp only [oI] at D1
     have HW:Hid (verOf h key k=lastN h x1 key k):=by
      show _=_;unfold verOf;rw [HX.out,if_pos ⟨d,by rw [HN.out];exact d5⟩]
     rcases hl:lastN h x1 key k with _ | q
     ·rw [hl] at D2
      simp only [oI] at D2;have HA:Hid (verOf h key k=none):=by show _=_;rw [HW.out,hl]
      have HV:Hid (recV intV (((List.range (k+1)).filterMap (verOf h key)).map Int.ofNat)=recV intV (((List.range k).filterMap (verOf h key)).map Int.ofNat)):=by show _=_;rw [vers_next,HA.out,Option.toList_none,List.append_nil]
      have HL':Hid (((List.range (k+1)).filterMap (verOf h key)).length=c):=by show _=_;rw [vers_next,HA.out,Option.toList_none,List.append_nil,HL.out]
      clear hl d5;go_wp2_with fail
      refine (D1 _ hbw).mono ?_;rintro e w1 ⟨rfl,b1⟩;have B1:=bel_trans hbw b1;have O1:=owns_below hrow b1;have m1:=(HQ.out k hk1 _ B1).2.1;rw [HX.out] at m1;go_wp2_with fail
      refine (D2 _ B1).mono ?_;rintro e w2 ⟨rfl,b2⟩;have B2:=bel_trans B1 b2;have O2:=owns_below O1 b2;go_wp2_with fail
      refine ⟨?relA,?meaA⟩
      case relA=>exact ⟨k+1,c,by omega,by omega,by first | go_num | simp,HL',B2,by rw [HV.out];exact O2⟩
      case meaA=>simp [RowKit.intOf];omega
     ·rw [hl] at D2
      simp only [oI] at D2;have jq:(0:Int)≤(q:Int):=by omega
      have HA:Hid (verOf h key k=some q):=by show _=_;rw [HW.out,hl]
      have HV:Hid (recV intV (((List.range (k+1)).filterMap (verOf h key)).map Int.ofNat)=recV intV (((List.range k).filterMap (verOf h key)).map Int.ofNat)++[.int .i64 (q:Int)]):=by
       show _=_;rw [vers_next,HA.out,List.map_append,recV_append];rfl
      have HL':Hid (((List.range (k+1)).filterMap (verOf h key)).length=c+1):=by show _=_;rw [vers_next,HA.out,List.length_append,HL.out];rfl
      obtain ⟨DR,hDR⟩:∃ d,recV intV (((List.range k).filterMap (verOf h key)).map Int.ofNat)=d:=⟨_,rfl⟩;rw [hDR] at hrow HV;clear hDR hl d5;go_wp2_with fail
      refine (D1 _ hbw).mono ?_;rintro e w1 ⟨rfl,b1⟩;have B1:=bel_trans hbw b1;have O1:=owns_below hrow b1;have m1:=(HQ.out k hk1 _ B1).2.1;rw [HX.out] at m1;go_wp2_with fail
      refine (D2 _ B1).mono ?_;rintro e w2 ⟨rfl,b2⟩;have B2:=bel_trans B1 b2;have O2:=owns_below O1 b2;have sz:=B2.size;go_wp2_with (at_builtin;refine wpList_append_own _ rfl _ _ 22 rfl w.heap.size 3 i0 (.int .i64 0) 1 8 Tryz.underlying22 hi hz0 hz1 hz2 rfl (by decide) _ _ _ rfl (O2.alloc _) ⟨w2.heap.size,0,none⟩ 1 1 [.int .i64 (q:Int)] rfl rfl ?d1 ?d2 ?d3 ?d4 ?d5 ?_)
      try
       case d1 =>
        intro j u hj
        match j,hj with
        | 0,hj=>simp at hj;subst hj;first | (simp [Addr.add];done) | exact cell_new7 (by simp) rfl
      case d2=>first | (intro u hu;simp at hu;subst hu;rfl) | rfl
      case d3=>unfold maxLen;omega
      case d4=>omega
      case d5=>simp;omega
      intro v' w3 own3 g3 _;have B3:Below w.heap.size w w3:=(B2.alloc B2.size _).grown g3 (by have:=B2.size;simp at this ⊢;omega) (fun j hj=>(hrow.lt j hj).1);go_wp2_with fail
      refine ⟨?relB,?meaB⟩
      case relB=>exact ⟨k+1,c+1,by omega,by omega,by first | go_num | simp,HL',B3,by rw [HV.out];exact own3⟩
      case meaB=>simp [RowKit.intOf];omega
    ·have hj:oI (endL h x1 n)≠(k:Int):=by
      intro hh;rcases he:endL h x1 n with _ | e
      ·rw [he] at hh;simp only [oI] at hh;omega
      ·rw [he] at hh;simp only [oI] at hh;exact d5 (by rw [he];congr 1;omega)
     obtain ⟨z,hz⟩:∃ z,oI (endL h x1 n)=z:=⟨_,rfl⟩;rw [hz] at D1 hj;have ez:(z != (k:Int))=true:=bne_iff_ne.2 hj;have HA:Hid (verOf h key k=none):=by show _=_;unfold verOf;rw [HX.out,if_neg (fun hh=>d5 (by have:=hh.2;rw [HN.out] at this;exact this))]
     have HV:Hid (recV intV (((List.range (k+1)).filterMap (verOf h key)).map Int.ofNat)=recV intV (((List.range k).filterMap (verOf h key)).map Int.ofNat)):=by show _=_;rw [vers_next,HA.out,Option.toList_none,List.append_nil]
     have HL':Hid (((List.range (k+1)).filterMap (verOf h key)).length=c):=by show _=_;rw [vers_next,HA.out,Option.toList_none,List.append_nil,HL.out]
     clear hz d5 hj;go_wp2_with fail
     refine (D1 _ hbw).mono ?_;rintro e w1 ⟨rfl,b1⟩;have B1:=bel_trans hbw b1;have O1:=owns_below hrow b1;go_wp2_with fail
     refine ⟨?relC,?meaC⟩
     case relC=>exact ⟨k+1,c,by omega,by omega,by first | go_num | simp,HL',B1,by rw [HV.out];exact O1⟩
     case meaC=>simp [RowKit.intOf];omega
   ·have e4:(x0 != 4)=true:=bne_iff_ne.2 d
    have HA:Hid (verOf h key k=none):=by show _=_;unfold verOf;rw [HX.out,if_neg (fun hh=>d hh.1)]
    have HV:Hid (recV intV (((List.range (k+1)).filterMap (verOf h key)).map Int.ofNat)=recV intV (((List.range k).filterMap (verOf h key)).map Int.ofNat)):=by show _=_;rw [vers_next,HA.out,Option.toList_none,List.append_nil]
    have HL':Hid (((List.range (k+1)).filterMap (verOf h key)).length=c):=by show _=_;rw [vers_next,HA.out,Option.toList_none,List.append_nil,HL.out]
    go_wp2_with fail
    refine ⟨?relD,?meaD⟩
    case relD=>exact ⟨k+1,c,by omega,by omega,by first | go_num | simp,HL',hbw,by rw [HV.out];exact hrow⟩
    case meaD=>simp [RowKit.intOf];omega
  ·obtain rfl:k=n:=by omega
   have HE:Hid (versL h key=(List.range k).filterMap (verOf h key)):=by show versL h key=_;unfold versL;rw [HN.out]
   go_wp2_with fail
   go_ret
   refine ⟨_,rfl,hbw,?_⟩;rw [HE.out,List.length_map,HL.out];exact hrow
theorem own_empty8 (w:World) (e k:Nat):(w.alloc (.cells #[] e)).ownsRow w.heap.size e k (.slice (some ⟨w.heap.size,0,none⟩) 0 0) 0 [] :=
 ⟨by simp,.inr ⟨w.heap.size,0,#[],rfl,Nat.le_refl _,SBox.new w e #[],Nat.le_refl _,by unfold maxLen;omega,by simp,by simp⟩⟩
theorem rec_src8 {α:Type} {sz:Nat} {enc:α→List Value} (hz:∀ x,(enc x).length=sz) (hs:0 < sz) {W:World} {b off:Nat} {L:List α} (h:∀ i (h:i < L.length) j u,(enc L[i])[j]?=some u→W.cell? ⟨b,off+i*sz+j,none⟩=some u):∀ j u,(recV enc L)[j]?=some u→W.cell? ((⟨b,off,none⟩:Addr).add j)=some u:=by
 intro j u hu
 have hj:j < L.length*sz:=by
  have:=(List.getElem?_eq_some_iff.1 hu).1
  rwa [recV_length hz] at this
 have hi:j / sz < L.length:=(Nat.div_lt_iff_lt_mul hs).2 hj;have hm:j % sz < sz:=Nat.mod_lt _ hs;have e:j / sz*sz+j % sz=j:=by rw [Nat.mul_comm];exact Nat.div_add_mod j sz
 have g:=recV_get hz L (j / sz) hi (j % sz) hm;rw [e,hu] at g;have:=h (j / sz) hi (j % sz) u g.symm;rw [Nat.add_assoc,e] at this;have ea:(⟨b,off,none⟩:Addr).add j=⟨b,off+j,none⟩:=by simp [Addr.add]
 rw [ea];exact this
theorem IsRec.src {α:Type} {sz:Nat} {enc:α→List Value} (hz:∀ x,(enc x).length=sz) (hs:0 < sz) {w W:World} {ad:Addr} {n c:Nat} {L:List α} (h:IsRec sz enc w (.slice (some ad) n c) L) (hb:Below w.heap.size w W):∀ j u,(recV enc L)[j]?=some u→W.cell? (ad.add j)=some u:=by
 by_cases h0:L=[]
 ·subst h0;intro j u hu;simp [recV] at hu
 ·obtain ⟨a,n',c',hv,h1,_,_,_,h6⟩:=h
  obtain ⟨rfl,rfl,rfl⟩:a=some ad∧n'=n∧c'=c:=by simpa [eq_comm] using hv
  rcases h6 with h6 | ⟨b,off,hb',hlt,hc⟩
  ·exact absurd (List.length_eq_zero_iff.1 (by omega)) h0
  ·obtain rfl:ad=⟨b,off,none⟩:=by simpa using hb'
   refine rec_src8 hz hs (fun i hi j u hu=>?_);exact (hb.cell (p:=⟨b,off+i*sz+j,none⟩) hlt).trans (hc i hi j u hu)
theorem own_slice9 {W:World} {B e k n:Nat} {v:Value} {xs:List Value} (h:W.ownsRow B e k v n xs):∃ g c,v=.slice g n c∧n≤c:=by
 rcases h.2 with ⟨rfl,rfl⟩ | ⟨g,cap,cur,rfl,_,_,hc,_⟩
 ·exact ⟨_,_,rfl,Nat.le_refl _⟩
 ·exact ⟨_,_,rfl,hc⟩
set_option maxHeartbeats 1000000 in
theorem rcomm_any (h:List Ev) (v:Value) (w:World) (hT:IsEvs w v h) (t:Int) :
 Calls Tryz.prog 67 #[v,.int .i64 t] w fun e w'=>e=.returned (.int .i64 (oI (commL h t)))∧Below w.heap.size w w':=by
 have D:=rend_any h v w hT t h.length (Nat.le_refl _);obtain ⟨a,cap,rfl,h1,h2,h3,HC⟩:=hT.reads;obtain ⟨n,hn⟩:∃ n,h.length=n:=⟨_,rfl⟩;have HN:Hid (h.length=n):=hn;rcases he:endL h t h.length with _ | e
 ·rw [comm_none h t he]
  rw [he] at D;simp only [oI] at D ⊢;rw [hn] at D h1 h3 ⊢;clear hT hn he;go_enter Tryz.func67,Tryz.ntmps67
  go_wp2_with fail
  refine D.mono ?_;rintro e w1 ⟨rfl,b1⟩;go_wp2_with fail
  go_ret
  exact ⟨rfl,b1⟩
 ·have hel:e < h.length:=((fi_some _ _ _).1 he).1
  have HE:Hid (e < h.length):=hel;obtain ⟨bb,off,rfl,HQ⟩:=HC.out (by omega);have j1:¬ (e:Int) < 0:=by omega
  rw [he] at D;simp only [oI] at D
  by_cases h4:(ev h e).1=4
  ·rw [comm_yes h t e he h4]
   have HX:Hid ((ev h e).1=4):=h4;simp only [oI];rw [hn] at D h1 h3 hel ⊢;clear hT hn he h4 HC;go_enter Tryz.func67,Tryz.ntmps67
   go_wp2_with fail
   refine D.mono ?_;rintro e' w1 ⟨rfl,b1⟩;obtain ⟨c0,_,_,_⟩:=HQ.out e HE.out _ b1;rw [HX.out] at c0;go_wp2_with fail
   go_ret
   exact ⟨rfl,b1⟩
  ·rw [comm_no h t e he h4]
   obtain ⟨x0,hx⟩:∃ x0,(ev h e).1=x0:=⟨_,rfl⟩;have HX:Hid ((ev h e).1=x0):=hx;have e4:(x0 != 4)=true:=by rw [← hx];simpa using h4
   simp only [oI];rw [hn] at D h1 h3 hel ⊢;clear hT hn he h4 HC hx;go_enter Tryz.func67,Tryz.ntmps67
   go_wp2_with fail
   refine D.mono ?_;rintro e' w1 ⟨rfl,b1⟩;obtain ⟨c0,_,_,_⟩:=HQ.out e HE.out _ b1;rw [HX.out] at c0;go_wp2_with fail
   go_ret
   exact ⟨rfl,b1⟩
theorem endL_skip (h:List Ev) (t:Int) (k:Nat) (he:endL h t k=none) (hn:¬ endB (ev h k) t):endL h t (k+1)=none:=by
 rw [endL_none] at he ⊢;intro j hj;rcases Nat.lt_or_ge j k with h' | h'
 ·exact he j h'
 ·obtain rfl:j=k:=by omega
  exact hn
theorem fstL_old (h:List Ev) (t:Int) (k f:Nat) (he:fstL h t k=some f):fstL h t (k+1)=some f:=by
 rw [fstL_some] at he ⊢;exact ⟨by omega,he.2⟩
theorem fstL_new (h:List Ev) (t:Int) (k:Nat) (he:fstL h t k=none) (hx:(ev h k).2.1=t):fstL h t (k+1)=some k:=by
 rw [fstL_none] at he;rw [fstL_some];exact ⟨by omega,hx,he⟩
theorem fstL_skip (h:List Ev) (t:Int) (k:Nat) (he:fstL h t k=none) (hx:(ev h k).2.1≠t):fstL h t (k+1)=none:=by
 rw [fstL_none] at he ⊢;intro j hj;rcases Nat.lt_or_ge j k with h' | h'
 ·exact he j h'
 ·obtain rfl:j=k:=by omega
  exact hx
theorem recN_snoc (L:List Int) (x:Int):recV intV (L++[x])=recV intV L++[.int .i64 x]:=by rw [recV_append];rfl
set_option maxHeartbeats 4000000 in
theorem rnodes_any (h:List Ev) (v:Value) (w:World) (hT:IsEvs w v h) :
 Calls Tryz.prog 97 #[v] w fun e w'=>InRow w (nodeL h) e w':=by
 obtain ⟨i0,hi,hz0,hz1,hz2⟩:=info_parts int_info;have C1:=fun (t:Int) W hW=>rcomm_any h v W (hT.below (w':=W) hW) t
 obtain ⟨a,cap,rfl,h1,h2,h3,HC⟩:=hT.reads;obtain ⟨n,hn⟩:∃ n,h.length=n:=⟨_,rfl⟩;have HN:Hid (h.length=n):=hn;simp only [hn] at C1;rw [hn] at h1 h3 ⊢;clear hT hn;go_enter Tryz.func97,Tryz.ntmps97
 go_wp2_with fail
 go_loopw [3,4] (fun r i wr=>∃ (k c:Nat),k≤301∧c≤k∧i=.int .i64 ((k:Int) - 1)∧Hid ((ndL h k).length=c)∧Below w.heap.size w wr∧wr.ownsRow w.heap.size 3 1 r c (recV intV (ndL h k))) (fun _ i _=>(301 - (RowKit.intOf i+1)).toNat)
 case atStart=>exact ⟨0,0,by omega,by omega,rfl,rfl,Below.refl _ _,World.ownsRow_nil _ _ _ _⟩
 case round =>
  obtain ⟨k,c,hk,hc,rfl,HL,hbw,hrow⟩:=hrel;obtain ⟨wo,rfl⟩:∃ x,x=wr:=⟨_,rfl⟩
  by_cases hlt:k < 301
  ·have j0:(k:Int) - 1 < 300:=by omega
   obtain ⟨t,ht⟩:∃ t,(k:Int) - 1=t:=⟨_,rfl⟩;have HT:Hid ((k:Int) - 1=t):=ht;rw [ht] at j0 ⊢;clear ht;have ht1:-1≤t∧t < 300:=by have:=HT.out;omega
   go_wp2_with fail
   go_loopw [5,6] (fun hs i wq=>∃ q:Nat,q≤n∧i=.int .i64 q∧hs=.bool (fstL h t q).isSome∧Below wo.heap.size wo wq) (fun _ i _=>n - (RowKit.intOf i).toNat)
   case atStart=>exact ⟨0,Nat.zero_le _,rfl,rfl,Below.refl _ _⟩
   case round =>
    obtain ⟨q,hq,rfl,rfl,hbq⟩:=hrel
    by_cases hqn:q < n
    ·have hq1:q < h.length:=by have:=HN.out;omega
     obtain ⟨bb,off,rfl,HQ⟩:=HC.out (by have:=HN.out;omega);have c1:=(HQ.out q hq1 _ (bel_trans hbw hbq)).2.1;obtain ⟨x1,hx⟩:∃ x,(ev h q).2.1=x:=⟨_,rfl⟩;have HX:Hid ((ev h q).2.1=x1):=hx;rw [hx] at c1;clear hx;cases hf:fstL h t q with
     | some f =>
       have HF:Hid (fstL h t (q+1)=some f):=fstL_old h t q f hf;clear hf;simp only [Option.isSome_some];go_wp2_with fail
       refine ⟨⟨q+1,by omega,by first | go_num | simp,by rw [HF.out];rfl,hbq⟩,by simp [RowKit.intOf];omega⟩
     | none =>
       simp only [Option.isSome_none]
       by_cases d:x1=t
       ·have e1:(x1==t)=true:=by rw [d];exact beq_self_eq_true _
        have HF:Hid (fstL h t (q+1)=some q):=fstL_new h t q hf (by rw [HX.out];exact d);clear hf d;go_wp2_with fail
        refine ⟨⟨q+1,by omega,by first | go_num | simp,by rw [HF.out];rfl,hbq⟩,by simp [RowKit.intOf];omega⟩
       ·have e1:(x1==t)=false:=beq_eq_false_iff_ne.2 d
        have HF:Hid (fstL h t (q+1)=none):=fstL_skip h t q hf (by rw [HX.out];exact d);clear hf d;go_wp2_with fail
        refine ⟨⟨q+1,by omega,by first | go_num | simp,by rw [HF.out];rfl,hbq⟩,by simp [RowKit.intOf];omega⟩
    ·obtain rfl:q=n:=by omega
     have B1:=bel_trans hbw hbq;have hrowq:=owns_below hrow hbq;have HK:Hid (ndOf h k=if commL h t=none then none else some t):=by show _=_;unfold ndOf;rw [HT.out]
     cases hf:fstL h t q with
     | none =>
       have HE:Hid (ndL h (k+1)=ndL h k):=by
        show _=_;rw [nd_next,HK.out,if_pos (comm_has h t (by rw [HN.out];exact hf))];simp
       clear hf;simp only [Option.isSome_none];go_wp2_with fail
       refine ⟨⟨k+1,c,by omega,by omega,by have:=HT.out;simp;omega,by rw [HE.out];exact HL.out,B1,by rw [HE.out];exact hrowq⟩,by have:=HT.out;simp [RowKit.intOf];omega⟩
     | some f =>
       simp only [Option.isSome_some];go_wp2_with fail
       refine (C1 t _ B1).mono ?_;rintro e w1 ⟨rfl,b1⟩;have B2:=bel_trans B1 b1;have hrow1:=owns_below hrowq b1;clear hf;rcases hcm:commL h t with _ | e
       ·have HE:Hid (ndL h (k+1)=ndL h k):=by
         show _=_;rw [nd_next,HK.out,if_pos hcm];simp
        simp only [oI];clear hcm;go_wp2_with fail
        refine ⟨⟨k+1,c,by omega,by omega,by have:=HT.out;simp;omega,by rw [HE.out];exact HL.out,B2,by rw [HE.out];exact hrow1⟩,by have:=HT.out;simp [RowKit.intOf];omega⟩
       ·have HE:Hid (ndL h (k+1)=ndL h k++[t]):=by
         show _=_;rw [nd_next,HK.out,if_neg (by rw [hcm];simp)];rfl
        simp only [oI];clear hcm;have je:(0:Int)≤(e:Int):=by omega
        have hsz1:=B2.size;go_wp2_with (at_builtin;refine wpList_append_own _ rfl _ _ 22 rfl w.heap.size 3 i0 (.int .i64 0) 1 8 Tryz.underlying22 hi hz0 hz1 hz2 rfl (by decide) _ _ _ rfl (hrow1.alloc _) ⟨w1.heap.size,0,none⟩ 1 1 [.int .i64 t] rfl rfl ?a1 ?a2 ?a3 ?a4 ?a5 ?_)
        case a1=>intro j u hj;match j,hj with
         | 0,hj=>simp at hj;subst hj;simp [Addr.add]
        case a2=>intro u hu;simp at hu;subst hu;rfl
        case a3=>unfold maxLen;omega
        case a4=>omega
        case a5=>simp;omega
        intro v' w2 hown2 hg2 _;have B3:Below w.heap.size w w2:=(B2.alloc B2.size _).grown hg2 (by simp;omega) (fun j hj=>(hrow1.lt j hj).1);go_wp2_with fail
        refine ⟨⟨k+1,c+1,by omega,by omega,by have:=HT.out;simp;omega,by rw [HE.out,List.length_append,HL.out];rfl,B3,by rw [HE.out,recN_snoc];exact hown2⟩,by have:=HT.out;simp [RowKit.intOf];omega⟩
  ·obtain rfl:k=301:=by omega
   go_wp2_with fail
   go_ret
   refine ⟨_,rfl,hbw,?_⟩;show World.ownsRow _ _ _ _ _ (ndL h 301).length (recV intV (ndL h 301));rw [HL.out];exact hrow
set_option linter.unusedSimpArgs false
set_option maxHeartbeats 4000000 in
theorem rways_any (vl:Value) (l:List Stp) (to:Int) (many:Nat) (w:World) (hT:IsSts w vl l) (hl9:l.length≤1000000000) (hm9:many≤1000000000) :
 Calls Tryz.prog 124 #[vl,.int .i64 to,.int .i64 (many:Int)] w fun e w'=>WaysRes w l to many e w':=by
 obtain ⟨i0,hi,hz0,hz1,hz2⟩:=info_parts int_info;obtain ⟨j0,ji,jz0,jz1,jz2⟩:=info_parts sl_info;obtain ⟨al,cl,rfl,p1,p2,p3,HL⟩:=hT.reads;obtain ⟨m,hm⟩:∃ m,l.length=m:=⟨_,rfl⟩;have HM:Hid (l.length=m):=hm;rw [hm] at p1 p3 hl9 ⊢;clear hT hm;have O1:=own_lit w 3 1 1 [.int .i64 to] rfl (by omega);have O2:=own_lit (w.alloc (.cells #[.int .i64 to] 3)) 22 1 1 [.slice (some ⟨w.heap.size,0,none⟩) 1 1] rfl (by omega);rw [World.size_alloc] at O2;have O3:=O1.alloc (.cells #[.slice (some ⟨w.heap.size,0,none⟩) 1 1] 22);have B0:Below w.heap.size w ((w.alloc (.cells #[.int .i64 to] 3)).alloc (.cells #[.slice (some ⟨w.heap.size,0,none⟩) 1 1] 22)):=((Below.refl w.heap.size w).alloc (Nat.le_refl _) _).alloc (by simp) _
 have HW0:Hid (WaysOk w ((w.alloc (.cells #[.int .i64 to] 3)).alloc (.cells #[.slice (some ⟨w.heap.size,0,none⟩) 1 1] 22)) l to [.slice (some ⟨w.heap.size,0,none⟩) 1 1]):=fun n u hu=>by
  rcases Nat.eq_zero_or_pos n with rfl | h0
  ·simp only [List.getElem?_cons_zero,Option.some.injEq] at hu
   subst hu;exact ⟨[to],O3,by simp,fun x=>by rw [wayB];simp⟩
  ·rw [List.getElem?_eq_none (by simp;omega)] at hu
   cases hu
 obtain ⟨wf,hwf⟩:∃ wf,(w.alloc (.cells #[.int .i64 to] 3)).alloc (.cells #[.slice (some ⟨w.heap.size,0,none⟩) 1 1] 22)=wf:=⟨_,rfl⟩;go_enter Tryz.func124,Tryz.ntmps124
 go_wp2_with fail
 have O4:=owns_low O2 (show w.heap.size≤w.heap.size+1 by omega);rw [hwf] at HW0 B0;have O5:wf.ownsRow w.heap.size 22 1 (.slice (some ⟨w.heap.size+1,0,none⟩) 1 1) 1 [.slice (some ⟨w.heap.size,0,none⟩) 1 1]:=by rw [← hwf];exact O4
 clear hwf O1 O2 O3 O4;go_loopw [7,8] (fun ov nv wr=>∃ (n:Nat) (Vs:List Value),n≤many∧nv=.int .i64 n∧Hid (Vs.length=n+1)∧Hid (WaysOk w wr l to Vs)∧Below w.heap.size w wr∧wr.ownsRow w.heap.size 22 1 ov (n+1) Vs) (fun _ nv _=>many - (RowKit.intOf nv).toNat)
 case atStart=>exact ⟨0,[.slice (some ⟨w.heap.size,0,none⟩) 1 1],Nat.zero_le _,rfl,(show _=_ from rfl),HW0,B0,O5⟩
 case round =>
  obtain ⟨n,Vs,hn,rfl,HVn,HW,hbw,hrow⟩:=hrel;obtain ⟨wo,rfl⟩:∃ wo,wo=wr:=⟨_,rfl⟩
  by_cases hlt:n < many
  ·have jn:(n:Int) < (many:Int):=by omega
   obtain ⟨g,cp,hu7,hcp,hcp2⟩:∃ g c,u7=.slice (some ⟨g,0,none⟩) (n+1) c∧n+1≤c∧c≤9223372036854775807:=by
    rcases hrow.2 with ⟨_,h⟩ | ⟨g,cap,cur,rfl,_,_,h2,h3,_⟩
    ·omega
    ·exact ⟨g,cap,rfl,h2,by unfold maxLen at h3;omega⟩
   obtain ⟨nn,hnn⟩:∃ nn,n+1=nn:=⟨_,rfl⟩;have HNN:Hid (n+1=nn):=hnn;have hnlt:n < nn:=by omega
   have hnnb:nn≤1000000001:=by omega
   have jn2:(n:Int) < (nn:Int):=by omega
   rw [hnn] at hu7 hcp hrow;subst hu7;obtain ⟨un,hun⟩:∃ u,Vs[n]?=some u:=⟨_,List.getElem?_eq_getElem (by have:=HVn.out;omega)⟩;obtain ⟨N,hN1,hN2,hN3⟩:=HW.out n un hun;have HN3:=Lib.hid hN3;have TN:IsInts wo un N:=IsRec.own intV_len (by omega) hN1 (by have:=HM.out;omega);have CN:=fun (x:Int) W (hW:Below wo.heap.size wo W)=>rhas_any un N x W (TN.below hW)
   have Hun:Hid (∀ V,Below wo.heap.size wo V→V.cell? ⟨g,n,none⟩=some un):=fun V hV=>by
    have c:=(owns_below hrow hV).cellAt n (by omega);rw [c];exact hun
   clear hN1 hN3 TN hnn;go_wp2_with fail
   go_loopw [9,10] (fun xv zv wq=>∃ (z:Nat) (X:List Int),z≤m∧zv=.int .i64 z∧X.length≤z∧Hid (∀ x,x∈X↔nextP l to n z x)∧Below wo.heap.size wo wq∧wq.ownsRow wo.heap.size 3 1 xv X.length (recV intV X)) (fun _ zv _=>m - (RowKit.intOf zv).toNat)
   case atStart=>exact ⟨0,[],Nat.zero_le _,rfl,by simp,(fun x=>⟨fun h=>(by cases h),fun ⟨j,_,h,_⟩=>absurd h (by omega)⟩),Below.refl _ _,World.ownsRow_nil _ _ _ _⟩
   case round =>
    obtain ⟨z,X,hz,rfl,hX,HX,hbq,xrow⟩:=hrel;obtain ⟨wq,rfl⟩:∃ wq,wq=wr:=⟨_,rfl⟩
    by_cases hlz:z < m
    ·have hzl:z < l.length:=by have:=HM.out;omega
     have jz:(z:Int) < (m:Int):=by omega
     obtain ⟨bs,os,rfl,uu,_,C1⟩:=HL.out z hzl;obtain ⟨⟨fr,t,E⟩,hy⟩:∃ y,l[z]=y:=⟨_,rfl⟩;have HNo:Hid (wayB l to n t=false→∀ x,nextP l to n (z+1) x↔nextP l to n z x):=fun h x=>nextP_no l to n z x hzl (by rw [hy];exact h)
     have HYe:Hid (wayB l to n t=true→∀ x,nextP l to n (z+1) x↔x=fr∨nextP l to n z x):=fun h x=>by have e:=nextP_yes l to n z x hzl (by rw [hy];exact h);rw [hy] at e;exact e
     rw [hy] at C1;simp only at C1;have HC1:=Lib.hid C1;clear hy C1;have TX:IsInts wq u9 X:=IsRec.own intV_len (by omega) xrow (by omega);have CX:=fun W (hW:Below wq.heap.size wq W)=>rhas_any u9 X fr W (TX.below hW)
     have CO:=fun W (hW:Below wo.heap.size wo W)=>CN t W hW
     have HOn:Hid (decide (t∈N)=wayB l to n t):=by
      show _=_;cases hw:wayB l to n t with
      | true=>exact decide_eq_true ((HN3.out t).2 hw)
      | false=>exact decide_eq_false (fun h=>by rw [(HN3.out t).1 h] at hw;cases hw)
     rw [HOn.out] at CO;obtain ⟨on,hon⟩:∃ b,wayB l to n t=b:=⟨_,rfl⟩;rw [hon] at CO HNo HYe;clear hon HOn;obtain ⟨x0,x1,_⟩:=HC1.out _ (bel_trans hbw hbq);have xu:=Hun.out _ hbq;have S0:(fun V=>Below wq.heap.size wq V∧V.cell? ⟨g,n,none⟩=some un∧V.cell? ⟨bs,os+z*3+1,none⟩=some (.int .i64 t)) wq.drew:=⟨(Below.refl _ _).drew,xu,x1⟩;have keepS:∀ V V':World,(fun V=>Below wq.heap.size wq V∧V.cell? ⟨g,n,none⟩=some un∧V.cell? ⟨bs,os+z*3+1,none⟩=some (.int .i64 t)) V→Below V.heap.size V V'→(fun V=>Below wq.heap.size wq V∧V.cell? ⟨g,n,none⟩=some un∧V.cell? ⟨bs,os+z*3+1,none⟩=some (.int .i64 t)) V':=fun V V' ⟨a,b,c⟩ d=>⟨bel_trans a d,cell_bel d b,cell_bel d c⟩
     go_wp2_with fail
     go_region_held3 (fun V=>Below wq.heap.size wq V∧V.cell? ⟨g,n,none⟩=some un∧V.cell? ⟨bs,os+z*3+1,none⟩=some (.int .i64 t)) (first | exact S0 | exact keepS _ _ (by assumption) (by assumption)) (first | (go_at_call 121;refine (CO _ (bel_trans hbq (And.left (by assumption)))).mono ?_;rintro e' w' ⟨rfl,b8⟩))
     rename_i hHeld8
     have s8:=hHeld8.1;clear S0 keepS hHeld8 x0 x1 xu;obtain ⟨y0,y1,_⟩:=HC1.out _ (bel_trans hbw (bel_trans hbq s8));go_wp2_with fail
     refine (CX _ s8).mono ?_;rintro e w2 ⟨rfl,b2⟩;have s9:=bel_trans s8 b2;have B9:=bel_trans hbq s9;have xrow9:=owns_below xrow s9;obtain ⟨q0,q1,_⟩:=HC1.out _ (bel_trans hbw B9);cases on with
     | false =>
       have HX2:Hid (∀ x,x∈X↔nextP l to n (z+1) x):=fun x=>(HX.out x).trans (HNo.out rfl x).symm
       obtain ⟨inb,hinb⟩:∃ b,decide (fr∈X)=b:=⟨_,rfl⟩;simp only [hinb];clear hinb;go_wp2_with fail
       refine ⟨⟨z+1,X,by omega,by first | go_num | simp,by omega,HX2,B9,xrow9⟩,by simp [RowKit.intOf];omega⟩
     | true =>
       by_cases hin:fr∈X
       ·have HX2:Hid (∀ x,x∈X↔nextP l to n (z+1) x):=fun x=>by
         rw [HYe.out rfl x,← HX.out x];exact ⟨.inr,fun h=>h.elim (fun e=>by rw [e];exact hin) id⟩
        simp only [decide_eq_true hin];clear hin;go_wp2_with fail
        refine ⟨⟨z+1,X,by omega,by first | go_num | simp,by omega,HX2,B9,xrow9⟩,by simp [RowKit.intOf];omega⟩
       ·have HX2:Hid (∀ x,x∈X++[fr]↔nextP l to n (z+1) x):=fun x=>by
         rw [HYe.out rfl x,← HX.out x,List.mem_append,List.mem_singleton];exact Or.comm
        simp only [decide_eq_false hin];clear hin;have sz:=B9.size;go_wp2_with (at_builtin;refine wpList_append_own _ rfl _ _ 22 rfl wo.heap.size 3 i0 (.int .i64 0) 1 8 Tryz.underlying22 hi hz0 hz1 hz2 rfl (by decide) _ _ _ rfl (xrow9.alloc _) ⟨w2.heap.size,0,none⟩ 1 1 [.int .i64 fr] rfl rfl ?d1 ?d2 ?d3 ?d4 ?d5 ?_)
        try
         case d1=>intro j u hj;match j,hj with
          | 0,hj=>simp at hj;subst hj;first | (simp [Addr.add];done) | exact cell_new7 (by simp) rfl
        try
         case d2=>intro u hu;simp at hu;subst hu;rfl
        try
         case d2=>exact rfl
        try
         case d3=>unfold maxLen;omega
        try
         case d4=>omega
        try
         case d5=>first | omega | (simp;done) | (simp;omega)
        intro v3 w3 own3 g3 _;have B3:Below wo.heap.size wo w3:=(B9.alloc sz _).grown g3 (by simp;omega) (fun j hj=>(xrow9.lt j hj).1);go_wp2_with fail
        refine ⟨⟨z+1,X++[fr],by omega,by first | go_num | simp,by simp;omega,HX2,B3,by rw [List.length_append,recV_append];exact own3⟩,by simp [RowKit.intOf];omega⟩
    ·obtain rfl:z=m:=by omega
     have jz:¬ (z:Int) < (z:Int):=by omega
     have HX3:Hid (∀ x,x∈X↔wayB l to (n+1) x=true):=fun x=>by rw [HX.out x,← HM.out];exact nextP_all l to n x
     obtain ⟨ax,cx,hu9⟩:∃ a c,u9=.slice a X.length c:=by
      rcases xrow.2 with ⟨rfl,h⟩ | ⟨g,cap,cur,rfl,_⟩
      ·exact ⟨_,_,by rw [h]⟩
      ·exact ⟨_,_,rfl⟩
     subst hu9;have BQ:=bel_trans hbw hbq;have sz:=BQ.size;have orow:=owns_below hrow hbq;have xlow:=owns_low xrow hbw.size;have HW2:=HW.out.below hbq;go_wp2_with (at_builtin;refine wpList_append_own _ rfl _ _ 170 rfl w.heap.size 22 j0 (.slice none 0 0) 1 24 Tryz.underlying170 ji jz0 jz1 jz2 rfl (by decide) _ _ _ rfl (orow.alloc _) ⟨wq.heap.size,0,none⟩ 1 1 [.slice ax X.length cx] rfl rfl ?k1 ?k2 ?k3 ?k4 ?k5 ?_)
     try
      case k1=>intro j u hj;match j,hj with
       | 0,hj=>simp at hj;subst hj;first | (simp [Addr.add];done) | exact cell_new7 (by simp) rfl
     try
      case k2 =>
       intro u hu;simp at hu;subst hu;rfl
     try
      case k2=>exact rfl
     try
      case k3=>unfold maxLen;omega
     try
      case k4=>omega
     try
      case k5=>first | omega | (simp;done) | (simp;omega)
     intro v3 w3 own3 g3 _;have B3:Below w.heap.size w w3:=(BQ.alloc sz _).grown g3 (by simp;omega) (fun j hj=>(orow.lt j hj).1);have bA:=(Below.refl wq.heap.size wq).alloc (Nat.le_refl _) (.cells #[.slice ax X.length cx] 22);have HW3:=(HW2.below bA).grown (orow.alloc (.cells #[.slice ax X.length cx] 22)) (by decide) g3;have X3:=apart11_kept (xlow.alloc (.cells #[.slice ax X.length cx] 22)) g3 (apart_types orow xlow (by decide));have HW4:Hid (WaysOk w w3 l to (Vs++[.slice ax X.length cx])):=HW3.push (.slice ax X.length cx) X X3 (by have:=HM.out;omega) (fun x=>by rw [HVn.out];exact HX3.out x);go_wp2_with fail
     refine ⟨⟨n+1,Vs++[.slice ax X.length cx],by omega,by first | go_num | simp,by show _=_;rw [List.length_append,HVn.out];rfl,HW4,B3,by rw [HNN.out];exact own3⟩,by simp [RowKit.intOf];omega⟩
  ·obtain rfl:n=many:=by omega
   have jn:¬ (n:Int) < (n:Int):=by omega
   go_wp2_with fail
   go_ret
   exact ⟨_,Vs,rfl,hbw,HVn.out,hrow,HW.out⟩
end Go.Proofs.YthamoeekiglphaaGreatDoor
namespace Go.Proofs.YthamoeekiglphaaGreatDoor
set_option maxRecDepth 100000
open Go.RowKit
set_option linter.unusedVariables false
def iV (K:List Int):List Value:=K.map (Value.int .i64)
theorem iV_rec (K:List Int):recV intV K=iV K:=by
 unfold recV iV
 induction K with
 | nil=>rfl
 | cons x r ih=>rw [List.flatMap_cons,ih];rfl
theorem iV_length (K:List Int):(iV K).length=K.length:=by unfold iV;rw [List.length_map]
theorem iV_app (K M:List Int):iV (K++M)=iV K++iV M:=by unfold iV;rw [List.map_append]
theorem iV_at (K:List Int) (i:Nat) (h:i < K.length):(iV K)[i]?=some (.int .i64 K[i]):=by unfold iV;simp [h]
theorem isrc_take {W:World} {B g cp:Nat} {K:List Int} (h:W.ownsRow B 3 1 (.slice (some ⟨g,0,none⟩) K.length cp) K.length (iV K)) (q:Nat):∀ j u,(iV (K.take q))[j]?=some u→W.cell? ((⟨g,0,none⟩:Addr).add j)=some u:=by
 intro j u hu;have hj:=(List.getElem?_eq_some_iff.1 hu).1;rw [iV_length,List.length_take] at hj;have c:=h.cellAt j (by omega);have e:(iV (K.take q))[j]?=(iV K)[j]?:=by unfold iV;rw [List.map_take,List.getElem?_take_of_lt (by omega)]
 rw [e] at hu;have a:((⟨g,0,none⟩:Addr).add j)=⟨g,j,none⟩:=by simp [Addr.add];intro h;exact h.symm
 rw [a,c];exact hu
theorem isrc_drop {W:World} {B g cp:Nat} {K:List Int} (h:W.ownsRow B 3 1 (.slice (some ⟨g,0,none⟩) K.length cp) K.length (iV K)) (q:Nat):∀ j u,(iV (K.drop q))[j]?=some u→W.cell? ((⟨g,q,none⟩:Addr).add j)=some u:=by
 intro j u hu;have hj:=(List.getElem?_eq_some_iff.1 hu).1;rw [iV_length,List.length_drop] at hj;have c:=h.cellAt (q+j) (by omega);have e:(iV (K.drop q))[j]?=(iV K)[q+j]?:=by unfold iV;rw [List.map_drop,List.getElem?_drop]
 rw [e] at hu;have a:((⟨g,q,none⟩:Addr).add j)=⟨g,q+j,none⟩:=by simp [Addr.add]
 rw [a,c];exact hu
theorem own_slice11 {W:World} {B e k n:Nat} {v:Value} {xs:List Value} (h:W.ownsRow B e k v n xs) (h0:0 < n):∃ g c,v=.slice (some ⟨g,0,none⟩) n c∧n≤c∧c≤9223372036854775807:=by
 rcases h.2 with ⟨_,h⟩ | ⟨g,cap,cur,rfl,_,_,h2,h3,_⟩
 ·omega
 ·exact ⟨g,cap,rfl,h2,by unfold maxLen at h3;omega⟩
def IRow (w W:World) (r:Value) (K:List Int):Prop:=(r=.slice none 0 0∧K=[])∨(0 < K.length∧W.ownsRow w.heap.size 3 1 r K.length (iV K))
theorem IRow.ints {w W:World} {r:Value} {K:List Int} (h:IRow w W r K) (hn:K.length≤140737488351232):IsInts W r K:=by
 rcases h with ⟨rfl,rfl⟩ | ⟨_,h⟩
 ·exact IsRec.nil 1 intV W
 ·rw [← iV_rec] at h
  exact IsRec.own intV_len (by omega) h hn
section
variable {α:Type}
theorem startsF_snoc (s:Sp α):∀ (l:List (Sp α)) (acc:List Int),startsF acc (l++[s])=insI s.1 (startsF acc l)
 | [],acc=>rfl
 | x::l,acc=>by rw [List.cons_append,startsF,startsF,startsF_snoc s l]
end
theorem insI_in (k:Int):∀ K:List Int,K.Pairwise (·< ·)→k∈K→insI k K=K
 | [],_,h=>by cases h
 | x::K,hs,h=>by
   rw [insI]
   by_cases h1:x < k
   ·rw [if_pos h1]
    rcases List.mem_cons.1 h with rfl | h
    ·omega
    ·rw [insI_in k K (List.pairwise_cons.1 hs).2 h]
   ·rw [if_neg h1]
    rcases List.mem_cons.1 h with rfl | h
    ·rw [if_pos rfl]
    ·have:=(List.pairwise_cons.1 hs).1 k h
     omega
theorem insI_split (k:Int):∀ (K:List Int) (q:Nat) (hq:q≤K.length) (hl:∀ j (h:j < q),K[j]'(by omega) < k) (hn:∀ h:q < K.length,¬ K[q]'h < k) (hm:k ∉ K),insI k K=K.take q++k::K.drop q
 | [],q,hq,hl,hn,hm=>by
   obtain rfl:q=0:=by simpa using hq
   rfl
 | x::K,0,hq,hl,hn,hm=>by
   rw [insI];have:=hn (by simp);simp only [List.getElem_cons_zero] at this;rw [if_neg this,if_neg (fun e=>hm (by rw [e];exact List.mem_cons_self ..))];rfl
 | x::K,q+1,hq,hl,hn,hm=>by
   rw [insI];have h0:=hl 0 (by omega);simp only [List.getElem_cons_zero] at h0;rw [if_pos h0,insI_split k K q (by simpa using hq) (fun j h=>by have:=hl (j+1) (by omega);simpa using this) (fun h=>by have:=hn (by simpa using h);simpa using this) (fun h=>hm (List.mem_cons_of_mem _ h))];rfl
theorem insI_len (k:Int):∀ K:List Int,(insI k K).length≤K.length+1
 | []=>by simp [insI]
 | x::K=>by
   rw [insI];have:=insI_len k K
   split
   ·simp;omega
   ·split<;>simp
section
variable {α:Type}
theorem startsF_len:∀ (l:List (Sp α)) (acc:List Int),(startsF acc l).length≤acc.length+l.length
 | [],acc=>by rw [startsF];simp
 | s::l,acc=>by
   rw [startsF,List.length_cons];have h1:=startsF_len l (insI s.1 acc);have h2:=insI_len s.1 acc;omega
theorem starts_len (l:List (Sp α)):(startsL l).length≤l.length:=by have:=startsF_len l [];simpa [startsL] using this
end
end Go.Proofs.YthamoeekiglphaaGreatDoor
namespace Go.Proofs.YthamoeekiglphaaGreatDoor
set_option maxRecDepth 100000
set_option linter.unusedVariables false
section
variable (kd:List UInt8→List UInt8)
def tagK (k:List UInt8):List UInt8:=kd (5::k)
def tagV (v:List UInt8):List UInt8:=if v=[] then [] else kd (6::v)
def tagE (x:Ev):Ev:=if keyedE x.1 then (x.1,x.2.1,tagK kd x.2.2.1,tagV kd x.2.2.2) else x
def tagsL (h:List Ev):List Ev:=h.map (tagE kd)
theorem tags_len (h:List Ev):(tagsL kd h).length=h.length:=by unfold tagsL;rw [List.length_map]
end
end Go.Proofs.YthamoeekiglphaaGreatDoor
namespace Go.Proofs.YthamoeekiglphaaGreatDoor
set_option maxRecDepth 100000
set_option linter.unusedVariables false
abbrev mayK (k:List UInt8):Prop:=1≤k.length∧k.length≤32
section
variable (kd:List UInt8→List UInt8→List UInt8)
end
end Go.Proofs.YthamoeekiglphaaGreatDoor
namespace Go.Proofs.YthamoeekiglphaaGreatDoor
set_option maxRecDepth 100000
open Go.RowKit
set_option linter.unusedVariables false
structure Q5 (s t:TypeId) (w0 wa:World) (gv gm gH gZ:Nat) (V M H:List Int):Prop where
 v:Row wa gv s V
 m:Row wa gm s M
 h:Row wa gH t H
 z:Row wa gZ t Z8
 b:Below w0.heap.size w0 wa
theorem Q5.below {s t:TypeId} {w0 wa wb:World} {gv gm gH gZ:Nat} {V M H:List Int} (q:Q5 s t w0 wa gv gm gH gZ V M H) (hb:Below wa.heap.size wa wb):Q5 s t w0 wb gv gm gH gZ V M H :=
 ⟨q.v.below hb,q.m.below hb,q.h.below hb,q.z.below hb,q.b.trans (hb.mono q.b.size)⟩
theorem Q5.alloc {s t:TypeId} {w0 wa:World} {gv gm gH gZ:Nat} {V M H:List Int} (q:Q5 s t w0 wa gv gm gH gZ V M H) (o:Obj):Q5 s t w0 (wa.alloc o) gv gm gH gZ V M H :=
 ⟨q.v.alloc o,q.m.alloc o,q.h.alloc o,q.z.alloc o,q.b.alloc q.b.size o⟩
theorem Q5.setV {s t:TypeId} {w0 wa:World} {gv gm gH gZ:Nat} {V M H:List Int} (q:Q5 s t w0 wa gv gm gH gZ V M H) (V':List Int) (h1:gm≠gv) (h2:gH≠gv) (h3:gZ≠gv) (h4:w0.heap.size≤gv):Q5 s t w0 (wa.setRow gv (wv V')) gv gm gH gZ V' M H :=
 ⟨q.v.setRow V',q.m.setRow_other _ _ h1,q.h.setRow_other _ _ h2,q.z.setRow_other _ _ h3,below_setRow q.b h4 _⟩
theorem Q5.other {s t:TypeId} {w0 wa:World} {gv gm gH gZ:Nat} {V M H:List Int} (q:Q5 s t w0 wa gv gm gH gZ V M H) (g i:Nat) (x:Value) (h0:gv≠g) (h1:gm≠g) (h2:gH≠g) (h3:gZ≠g) (h4:w0.heap.size≤g):Q5 s t w0 (wa.setCell ⟨g,i,none⟩ x) gv gm gH gZ V M H :=
 ⟨q.v.other _ _ _ h0,q.m.other _ _ _ h1,q.h.other _ _ _ h2,q.z.other _ _ _ h3,q.b.setCell (by simpa using h4) _⟩
def wl (M:List Int) (s:Nat→Nat) (k:Nat):List Int:=(List.range 16).map fun i=>if i < k then at_ M (s i) else 0
theorem wl_len (M:List Int) (s:Nat→Nat) (k:Nat):(wl M s k).length=16:=by simp [wl]
theorem wl_set (M:List Int) (s:Nat→Nat) (k:Nat):(wl M s k).set k (at_ M (s k))=wl M s (k+1):=by
 apply List.ext_getElem
 ·simp [wl]
 ·intro i h1 h2
  simp only [List.getElem_set,wl,List.getElem_map,List.getElem_range]
  by_cases h:k=i
  ·subst h;simp
  ·rw [if_neg h]
   by_cases h3:i < k
   ·rw [if_pos h3,if_pos (by omega)]
   ·rw [if_neg h3,if_neg (by omega)]
theorem wl_at (M:List Int) (s:Nat→Nat) (i:Nat) (hi:i < 16):at_ (wl M s 16) i=at_ M (s i):=by
 rw [← at_eq (wl M s 16) i (by rw [wl_len];exact hi)];simp [wl,hi]
theorem wl_zero (M:List Int) (s:Nat→Nat):wl M s 0=Z16:=by
 unfold wl Z16;simp;rfl
theorem sp_zero (H:List Int):sp H 0=Z16:=by
 unfold sp Z16;simp;rfl
theorem rk_step (M V:List Int) (s:Nat→Nat) (k:Nat) (Vp:List Int) (h:rk M V s k=Vp):rk M V s (k+1)=mixL Vp (qa k 0) (qa k 1) (qa k 2) (qa k 3) (at_ M (s (2*k))) (at_ M (s (2*k+1))):=by rw [← h];rfl
theorem sg_lt (r i:Nat) (hr:r < 10) (hi:i < 16):sg r i < 16:=by
 have h:∀ r,r < 10→∀ i,i < 16→sg r i < 16:=by decide +kernel
 exact h r hr i hi
theorem ordL_len (r:Nat) (hr:r < 10):(ordL r).length=16:=by
 have h:∀ r,r < 10→(ordL r).length=16:=by decide +kernel
 exact h r hr
theorem ordL_get (r i:Nat) (hr:r < 10) (h:i < (ordL r).length):(ordL r)[i]'h=fig (sg r i):=by
 have hi:i < 16:=by rw [ordL_len r hr] at h;exact h
 have h1:∀ r,r < 10→∀ i,i < 16→(ordL r)[i]?=some (fig (sg r i)):=by decide +kernel
 have h2:=h1 r hr i hi;rw [List.getElem?_eq_getElem h] at h2;exact Option.some.inj h2
attribute [local go_sem] wv_get wv_getE wv_set wv_size
set_option maxHeartbeats 400000 in
theorem turn_16 (x:Int) (w:World) :
 Calls Tryz.prog 137 #[.int .u32 x,.int .u32 16] w fun e w'=>e=.returned (.int .u32 (rot 65536 65536 x))∧w'=w:=by
 go_enter Tryz.func137,Tryz.ntmps137
 go_wp2
 go_ret
 exact ⟨rfl,rfl⟩
set_option maxHeartbeats 400000 in
theorem turn_12 (x:Int) (w:World) :
 Calls Tryz.prog 137 #[.int .u32 x,.int .u32 12] w fun e w'=>e=.returned (.int .u32 (rot 4096 1048576 x))∧w'=w:=by
 go_enter Tryz.func137,Tryz.ntmps137
 go_wp2
 go_ret
 exact ⟨rfl,rfl⟩
set_option maxHeartbeats 400000 in
theorem turn_8 (x:Int) (w:World) :
 Calls Tryz.prog 137 #[.int .u32 x,.int .u32 8] w fun e w'=>e=.returned (.int .u32 (rot 256 16777216 x))∧w'=w:=by
 go_enter Tryz.func137,Tryz.ntmps137
 go_wp2
 go_ret
 exact ⟨rfl,rfl⟩
set_option maxHeartbeats 400000 in
theorem turn_7 (x:Int) (w:World) :
 Calls Tryz.prog 137 #[.int .u32 x,.int .u32 7] w fun e w'=>e=.returned (.int .u32 (rot 128 33554432 x))∧w'=w:=by
 go_enter Tryz.func137,Tryz.ntmps137
 go_wp2
 go_ret
 exact ⟨rfl,rfl⟩
set_option maxHeartbeats 2000000 in
theorem mix_any (V:List Int) (hV:V.length=16) (a b c d:Nat) (ha:a < 16) (hb:b < 16) (hc:c < 16) (hd:d < 16) (x y:Int) (w:World) :
 Calls Tryz.prog 117 #[.agg (wv V),.int .i64 a,.int .i64 b,.int .i64 c,.int .i64 d,.int .u32 x,.int .u32 y] w fun e w'=>e=.returned (.agg (wv (mixL V a b c d x y)))∧Below w.heap.size w w':=by
 have ia:(a:Int) < 16:=by omega
 have ib:(b:Int) < 16:=by omega
 have ic:(c:Int) < 16:=by omega
 have id':(d:Int) < 16:=by omega
 go_enter Tryz.func117,Tryz.ntmps117
 have hl0:=hV;go_wp2
 refine region_tail 11 (by kernel_rfl) (by kernel_rfl) ?_;simp only [List.take_succ_cons,List.take_zero,List.drop_succ_cons,List.drop_zero]
 repeat still_step
 refine wpStill_nil ?_;go_wp2
 obtain ⟨V1,hV1⟩:∃ V1,V.set a (((V[a]+V[b]) % 4294967296+x) % 4294967296)=V1:=⟨_,rfl⟩;rw [hV1];have hl1:V1.length=16:=by rw [← hV1];simpa using hl0
 have H1:Hid (V1=mx1 V a b x):=by rw [← hV1];simp only [at_eq];rfl
 clear hV1;refine region_tail 10 (by kernel_rfl) (by kernel_rfl) ?_;simp only [List.take_succ_cons,List.take_zero,List.drop_succ_cons,List.drop_zero]
 repeat still_step
 still_call (turn_16 _ _)
 repeat still_step
 refine wpStill_nil ?_;go_wp2
 obtain ⟨V2,hV2⟩:∃ V2,V1.set d (rot 65536 65536 (bits BinOp.xor IntKind.u32 V1[d] V1[a]))=V2:=⟨_,rfl⟩;rw [hV2];have hl2:V2.length=16:=by rw [← hV2];simpa using hl1
 have H2:Hid (V2=mx2 65536 65536 V1 d a):=by rw [← hV2];simp only [at_eq];rfl
 clear hV2;refine region_tail 9 (by kernel_rfl) (by kernel_rfl) ?_;simp only [List.take_succ_cons,List.take_zero,List.drop_succ_cons,List.drop_zero]
 repeat still_step
 refine wpStill_nil ?_;go_wp2
 obtain ⟨V3,hV3⟩:∃ V3,V2.set c ((V2[c]+V2[d]) % 4294967296)=V3:=⟨_,rfl⟩;rw [hV3];have hl3:V3.length=16:=by rw [← hV3];simpa using hl2
 have H3:Hid (V3=mx3 V2 c d):=by rw [← hV3];simp only [at_eq];rfl
 clear hV3;refine region_tail 10 (by kernel_rfl) (by kernel_rfl) ?_;simp only [List.take_succ_cons,List.take_zero,List.drop_succ_cons,List.drop_zero]
 repeat still_step
 still_call (turn_12 _ _)
 repeat still_step
 refine wpStill_nil ?_;go_wp2
 obtain ⟨V4,hV4⟩:∃ V4,V3.set b (rot 4096 1048576 (bits BinOp.xor IntKind.u32 V3[b] V3[c]))=V4:=⟨_,rfl⟩;rw [hV4];have hl4:V4.length=16:=by rw [← hV4];simpa using hl3
 have H4:Hid (V4=mx2 4096 1048576 V3 b c):=by rw [← hV4];simp only [at_eq];rfl
 clear hV4;refine region_tail 11 (by kernel_rfl) (by kernel_rfl) ?_;simp only [List.take_succ_cons,List.take_zero,List.drop_succ_cons,List.drop_zero]
 repeat still_step
 refine wpStill_nil ?_;go_wp2
 obtain ⟨V5,hV5⟩:∃ V5,V4.set a (((V4[a]+V4[b]) % 4294967296+y) % 4294967296)=V5:=⟨_,rfl⟩;rw [hV5];have hl5:V5.length=16:=by rw [← hV5];simpa using hl4
 have H5:Hid (V5=mx1 V4 a b y):=by rw [← hV5];simp only [at_eq];rfl
 clear hV5;refine region_tail 10 (by kernel_rfl) (by kernel_rfl) ?_;simp only [List.take_succ_cons,List.take_zero,List.drop_succ_cons,List.drop_zero]
 repeat still_step
 still_call (turn_8 _ _)
 repeat still_step
 refine wpStill_nil ?_;go_wp2
 obtain ⟨V6,hV6⟩:∃ V6,V5.set d (rot 256 16777216 (bits BinOp.xor IntKind.u32 V5[d] V5[a]))=V6:=⟨_,rfl⟩;rw [hV6];have hl6:V6.length=16:=by rw [← hV6];simpa using hl5
 have H6:Hid (V6=mx2 256 16777216 V5 d a):=by rw [← hV6];simp only [at_eq];rfl
 clear hV6;refine region_tail 9 (by kernel_rfl) (by kernel_rfl) ?_;simp only [List.take_succ_cons,List.take_zero,List.drop_succ_cons,List.drop_zero]
 repeat still_step
 refine wpStill_nil ?_;go_wp2
 obtain ⟨V7,hV7⟩:∃ V7,V6.set c ((V6[c]+V6[d]) % 4294967296)=V7:=⟨_,rfl⟩;rw [hV7];have hl7:V7.length=16:=by rw [← hV7];simpa using hl6
 have H7:Hid (V7=mx3 V6 c d):=by rw [← hV7];simp only [at_eq];rfl
 clear hV7;refine region_tail 10 (by kernel_rfl) (by kernel_rfl) ?_;simp only [List.take_succ_cons,List.take_zero,List.drop_succ_cons,List.drop_zero]
 repeat still_step
 still_call (turn_7 _ _)
 repeat still_step
 refine wpStill_nil ?_;have hs8:(V7.set b (rot 128 33554432 (bits BinOp.xor IntKind.u32 V7[b] V7[c]))).length=16:=by simpa using hl7
 have hsz:(Tryz.prog.info? 162).map (·.size)=some 16:=by kernel_rfl
 obtain ⟨V8,hV8⟩:∃ V8,V7.set b (rot 128 33554432 (bits BinOp.xor IntKind.u32 V7[b] V7[c]))=V8:=⟨_,rfl⟩;go_wp2_with (first | (refine wpList_load_row rfl 162 _ rfl w.heap.size rfl 162 (wv V8) (0,0) _ ?hg Tryz.underlying162 rfl ?hi ?_) | (refine wpList_store_row rfl 162 _ _ rfl (w.heap.size+1) (wv V8) rfl rfl 162 #[Value.int IntKind.u32 0,Value.int IntKind.u32 0,Value.int IntKind.u32 0,Value.int IntKind.u32 0,Value.int IntKind.u32 0,Value.int IntKind.u32 0,Value.int IntKind.u32 0,Value.int IntKind.u32 0,Value.int IntKind.u32 0,Value.int IntKind.u32 0,Value.int IntKind.u32 0,Value.int IntKind.u32 0,Value.int IntKind.u32 0,Value.int IntKind.u32 0,Value.int IntKind.u32 0,Value.int IntKind.u32 0] ?hg2 ?hi2 ?ho2 ?h12 ?_))
 case hg=>exact heap_alloc2_old w _ _
 case hi=>rw [hsz,wv_size,← hV8,hs8]
 case hg2=>exact heap_alloc2_new w _ _
 case hi2=>rw [hsz,wv_size,← hV8,hs8]
 case ho2=>rw [wv_size,← hV8,hs8];rfl
 case h12=>exact wv_one V8
 have HR:Hid (V8=mixL V a b c d x y):=by
  show V8=_;rw [← hV8];simp only [at_eq];unfold mixL;rw [← H1.out,← H2.out,← H3.out,← H4.out,← H5.out,← H6.out,← H7.out];rfl
 refine bodyPost_ret (v:=.agg (wv V8)) (results_cell_row Tryz.results117 _ _ (w.heap.size+1) 162 (wv V8) (0,0) _ rfl ?_ Tryz.underlying162 rfl ?_) rfl ⟨by rw [HR.out],?_⟩
 ·exact setRow_heap _ _ _ _ _ _ (heap_alloc2_new w _ _)
 ·rw [hsz,wv_size,← hV8,hs8]
 ·exact below_setRow (Below.drew (Below.drew (Below.drew (Below.drew (Below.drew (Below.drew (Below.drew (Below.drew (((Below.refl _ _).alloc (Nat.le_refl _) _).alloc (by simp) _))))))))) (by omega) _
end Go.Proofs.YthamoeekiglphaaGreatDoor
namespace Go.Proofs.YthamoeekiglphaaGreatDoor
set_option maxRecDepth 100000
open Go.RowKit
set_option maxHeartbeats 400000 in
theorem first_any (w:World):Calls Tryz.prog 89 #[] w fun e w'=>(∃ g,e=.returned (.slice (some ⟨g,0,none⟩) 8 8)∧w.heap.size≤g∧Row w' g 98 firstL)∧Below w.heap.size w w':=by
 go_enter Tryz.func89,Tryz.ntmps89
 go_wp2
 go_ret
 exact ⟨⟨w.heap.size,rfl,Nat.le_refl _,heap_alloc_new w _⟩,(Below.refl _ _).alloc (Nat.le_refl _) _⟩
set_option maxHeartbeats 1000000 in
theorem order_any (r:Nat) (hr:r < 10) (w:World):Calls Tryz.prog 115 #[.int .i64 r] w fun e w'=>e=.returned (.string ⟨(ordL r).toArray⟩)∧Below w.heap.size w w':=by
 have hc:r=0∨r=1∨r=2∨r=3∨r=4∨r=5∨r=6∨r=7∨r=8∨r=9:=by omega
 rcases hc with rfl | rfl | rfl | rfl | rfl | rfl | rfl | rfl | rfl | rfl
 all_goals
  go_enter Tryz.func115,Tryz.ntmps115
  go_wp2
  go_ret
  exact ⟨ret_str (by decide),(Below.refl _ _).alloc (Nat.le_refl _) _⟩
set_option maxHeartbeats 400000 in
theorem figure_any (n:Nat) (hn:n < 16) (w:World):Calls Tryz.prog 116 #[.int .u8 ((fig n).toNat:Int)] w fun e w'=>e=.returned (.int .i64 n)∧w'=w:=by
 by_cases h:n < 10
 ·have e:((fig n).toNat:Int)=48+n:=by unfold fig;rw [if_pos h];simp;omega
  rw [e];go_enter Tryz.func116,Tryz.ntmps116
  go_wp2
  go_ret
  exact ⟨ret_int (by omega),rfl⟩
 ·have e:((fig n).toNat:Int)=87+n:=by unfold fig;rw [if_neg h];simp;omega
  rw [e];go_enter Tryz.func116,Tryz.ntmps116
  go_wp2
  go_ret
  exact ⟨ret_int (by omega),rfl⟩
def OwnB (w:World) (base:Nat) (e:TypeId) (v:Value) (n:Nat) (xs:List Value):Prop :=
 xs.length=n∧∃ g cap cur fz,v=.slice (some ⟨g,0,none⟩) n cap∧base≤g∧w.heap[g]?=some (.cells cur e fz)∧(∀ i,n≤i→i < cur.size→¬ (fz.1≤i∧i < fz.2))∧n≤cap∧cap≤maxLen∧cap≤cur.size∧cur.toList.take n=xs
theorem store_free (P:Program) (g o:Nat) (t:TypeId) (fz:Nat × Nat):∀ (vs:List Value) (i:Nat) (cur:Array Value) (w:World),w.heap[g]?=some (.cells cur t fz)→(∀ j,o+i≤j→j < cur.size→¬ (fz.1≤j∧j < fz.2))→o+i+vs.length≤cur.size→(∀ v∈vs,v.oneCell'=true) →
 (storeCells ⟨g,o,none⟩ vs i).run P w=.ok () (w.setRow g (cur.toList.take (o+i)++vs++cur.toList.drop (o+i+vs.length)).toArray)
 | [],i,cur,w,hg,_,_,_=>by
   simp only [storeCells,List.append_nil,List.length_nil,Nat.add_zero,List.take_append_drop,Array.toArray_toList];rw [setRow_self w g cur t fz hg];rfl
 | v::rest,i,cur,w,hg,hfz,hl,h1=>by
   have hi:o+i < cur.size:=by simp at hl;omega
   have hadd:(⟨g,o,none⟩:Addr).add i=⟨g,o+i,none⟩:=by unfold Addr.add;split<;>simp_all
   have hcell:w.cell? ⟨g,o+i,none⟩=some cur[o+i]:=by simp [World.cell?,hg,hi]
   have hfro:w.frozen? ⟨g,o+i,none⟩=false:=by
    have hn:=hfz (o+i) (Nat.le_refl _) hi;obtain ⟨lo,up⟩:=fz;simp only [World.frozen?,hg,Bool.and_eq_false_iff,decide_eq_false_iff_not];simp only at hn;omega
   have hst:(store ((⟨g,o,none⟩:Addr).add i) v).run P w=.ok () (w.setRow g (cur.setIfInBounds (o+i) v)):=by
    rw [hadd,run_store P w _ v _ (h1 v (by simp)),hcell];simp [hfro,setCell_eq_setRow w g (o+i) cur t fz v hg]
   have ih:=store_free P g o t fz rest (i+1) (cur.setIfInBounds (o+i) v) (w.setRow g (cur.setIfInBounds (o+i) v)) (setRow_heap w g cur _ t _ hg) (fun j h2 h3=>hfz j (by omega) (by simpa using h3)) (by simp at hl ⊢;omega) (fun x hx=>h1 x (by simp [hx]));simp only [storeCells,Sem.run_bind,hst,Result.andThen_ok,ih,setRow_setRow]
   congr 3
   have e:=list_seg_step cur.toList (o+i) v rest (by simp at hl ⊢;omega);simpa [Array.toList_setIfInBounds,Nat.add_assoc] using e
theorem ownB_of_bytes (w:World) (e:TypeId) (s:ByteArray) (hs:s.size≤maxLen):OwnB (Lib.bytesWorld w e s) w.heap.size e (.slice (some ⟨w.heap.size,0,none⟩) s.size (grownCap w s.size 0 e)) s.size (Lib.strCells s):=by
 refine ⟨Lib.strCells_length s,w.heap.size,_,_,_,rfl,Nat.le_refl _,Lib.bytesWorld_at_new w e s,?_,grownCap_ge w s.size 0 e,grownCap_le_maxLen w s.size 0 e hs,?_,?_⟩
 ·intro i _ h;simp only;omega
 ·have:=grownCap_ge w s.size 0 e
  simp [Lib.bytesCells];omega
 ·simp [Lib.bytesCells,Lib.strCells]
theorem OwnB.lt {w:World} {base:Nat} {e:TypeId} {v:Value} {n:Nat} {xs:List Value} (h:OwnB w base e v n xs):∀ k,v.ownBlock=some k→base≤k∧k < w.heap.size:=by
 obtain ⟨h1,g,cap,cur,fz,rfl,hbg,hg,r⟩:=h;intro k hk;simp [Value.ownBlock] at hk;subst hk;exact ⟨hbg,(Array.getElem?_eq_some_iff.1 hg).1⟩
theorem OwnB.string {P:Program} {w:World} {base:Nat} {e:TypeId} {v:Value} {n:Nat} {l:List UInt8} (h:OwnB w base e v n (Lib.byteCells l)) (src dst:TypeId) (hs:P.underlying src=some (.slice e)) (he:P.underlying e=some (.int .u8)) (hd:P.underlying dst=some .string) :
 (convert src dst v).run P w=.ok (.string ⟨l.toArray⟩) w:=by
 obtain ⟨h1,g,cap,cur,fz,rfl,hbg,hg,-,-,-,hcs,htake⟩:=h;rw [Lib.byteCells_length] at h1;subst h1;refine run_convert_bytes_back (P:=P) w src dst e ⟨g,0,none⟩ cap l hs he hd (fun j hj=>?_);have hadd:(⟨g,0,none⟩:Addr).add j=⟨g,j,none⟩:=by unfold Addr.add;split<;>simp_all
 rw [hadd];have e1:cur.toList[j]?=(Lib.byteCells l)[j]?:=by rw [← htake,List.getElem?_take_of_lt hj]
 simp only [World.cell?,hg];rw [← Array.getElem?_toList,e1];simp [Lib.byteCells,hj]
theorem bytesWorld_bel (w:World) (e:TypeId) (s:ByteArray):Below w.heap.size w (Lib.bytesWorld w e s) :=
 ⟨rfl,rfl,rfl,by rw [Lib.bytesWorld_size];omega,fun k hk=>Lib.bytesWorld_at_old w e s k hk⟩
set_option linter.unusedVariables false
theorem run_appendBS {P:Program} (w:World) (base:Nat) (t ty e:TypeId) (i:TypeInfo) (ht:P.underlying t=some (.slice e)) (hi:P.info? e=some i) (hz:i.zero=some (.int .u8 0))
 (hsize:i.size=1) (hby:i.bytes=1) (v:Value) (n:Nat) (xs:List Value) (hown:OwnB w base e v n xs) (ad:Addr) (m c:Nat) (news:List Value) (hl:news.length=m)
 (hnews:∀ j u,news[j]?=some u→w.cell? (ad.add j)=some u) (h1:∀ u∈news,u.oneCell'=true) (h63:n+m≤maxLen) (hbytes:n+m≤140737488355328) (hbase:base≤w.heap.size) :
 ∃ v' w',(Builtin.append_ #[t,t] ty #[v,.slice (some ad) m c]).run P w=.ok v' w'∧OwnB w' base e v' (n+m) (xs++news)∧w.grownBy w' v.ownBlock:=by
 obtain ⟨hxl,g,cap,cur,fz,rfl,hbg,hg,hfz,hnc,hcm,hcs,htake⟩:=hown;have hlen:(xs++news).length=n+m:=by rw [List.length_append,hxl,hl]
 by_cases hroom:n+m≤cap
 ·have hf:=run_firstCells_some (P:=P) w 1 m ad m c news (by omega) hnews
  have hst:=store_free P g n e fz news 0 cur w hg (fun j h2 h3=>hfz j (by omega) h3) (by omega) h1;simp only [Nat.add_zero,hl] at hst
  have hr:(Builtin.append_ #[t,t] ty #[.slice (some ⟨g,0,none⟩) n cap,.slice (some ad) m c]).run P w =
   .ok (.slice (some ⟨g,0,none⟩) (n+m) cap) (w.setRow g (cur.toList.take n++news++cur.toList.drop (n+m)).toArray):=by
   simp [Builtin.append_,run_underlying ht,sizeOf,typeInfo,hi,hsize,Builtin.lenOf,hroom,hf,Addr.add_lit,hst]
  have hsz:(cur.toList.take n++news++cur.toList.drop (n+m)).toArray.size=cur.size:=by
   simp only [List.size_toArray,List.length_append,List.length_take,List.length_drop,Array.length_toList,hl];omega
  refine ⟨_,_,hr,⟨hlen,g,cap,_,fz,rfl,hbg,setRow_heap w g cur _ e _ hg,?_,hroom,hcm,?_,?_⟩,⟨rfl,rfl,rfl,by simp,fun k _ hk=>setRow_other w g k _ (fun e=>hk (by simp [Value.ownBlock,e]))⟩⟩
  ·intro j h2 h3
   rw [hsz] at h3;exact hfz j (by omega) h3
  ·rw [hsz];exact hcs
  ·rw [htake,← hlen]
   exact List.take_left
 ·have holds:∀ j u,xs[j]?=some u→w.cell? ((⟨g,0,none⟩:Addr).add j)=some u:=by
   intro j u hj;have hadd:(⟨g,0,none⟩:Addr).add j=⟨g,j,none⟩:=by unfold Addr.add;split<;>simp_all
   rw [hadd];have hjl:j < n:=by have:=(List.getElem?_eq_some_iff.1 hj).1;omega
   rw [← htake,List.getElem?_take_of_lt hjl] at hj;simp only [World.cell?,hg];simpa using hj
  have hr:=run_append_grow (P:=P) w t ty e i (.int .u8 0) ht hi hz ⟨g,0,none⟩ n cap xs (by rw [hsize];simpa using hxl) holds ad m c news (by rw [hsize];simpa using hl) hnews (by omega) (by unfold maxLen at h63;omega) (by rw [hby];exact growslice_fits (by omega) (by omega));have hge:=grownCap_ge w (n+m) cap e;have hcm2:grownCap w (n+m) cap e≤maxLen:=grownCap_le_maxLen w (n+m) cap e h63;refine ⟨_,_,hr,⟨hlen,w.heap.size,_,_,(0,0),rfl,hbase,heap_alloc_new w.drew _,?_,hge,hcm2,?_,?_⟩,⟨rfl,rfl,rfl,by simp,fun k hk _=>heap_alloc_old w.drew _ hk⟩⟩
  ·intro j _ _;simp
  ·have hz1:(Value.int IntKind.u8 0).cells.size=1:=rfl
   simp only [Array.size_append,List.size_toArray,size_zeroCells,hz1,hxl,hl];omega
  ·simp only [Array.toList_append,List.append_assoc]
   rw [← List.append_assoc,← hlen];exact List.take_left
theorem wpList_appendBS {P:Program} (w:World) {ops:Array Oper} {rest:List Oper} {o:Oper} {a:Act} {Q:Exit→Act→World→Prop} (hgd:o.guard=none) (sl x:Operand) (t:TypeId)
 (ho:o.op=.call { callee:=.builtin .append,args:=#[sl,x],argTypes:=#[t,t] })
 (base:Nat) (e:TypeId) (i:TypeInfo) (ht:P.underlying t=some (.slice e)) (hi:P.info? e=some i) (hz:i.zero=some (.int .u8 0)) (hsize:i.size=1) (hby:i.bytes=1)
 (v:Value) (n:Nat) (xs:List Value) (hs:a.eval sl=v) (hown:OwnB w base e v n xs) (ad:Addr) (m c:Nat) (news:List Value) (hx:a.eval x=.slice (some ad) m c) (hl:news.length=m)
 (hnews:∀ j u,news[j]?=some u→w.cell? (ad.add j)=some u) (h1:∀ u∈news,u.oneCell'=true)
 (h63:n+m≤maxLen) (hbytes:n+m≤140737488355328) (hbase:base≤w.heap.size)
 (h:∀ v' w',OwnB w' base e v' (n+m) (xs++news)→w.grownBy w' v.ownBlock→wpList P ops Q rest (a.put o.dst v') w'):wpList P ops Q (o::rest) a w:=by
 refine wpList_plain hgd fun K hK=>?_
 obtain ⟨v',w',hr,h2,h3⟩:=run_appendBS (P:=P) w base t o.type e i ht hi hz hsize hby v n xs hown ad m c news hl hnews h1 h63 hbytes hbase;unfold Oper.wp execOp;simp only [ho,resolve,invoke,builtin,Sem.run_bind,Sem.run_pure,Result.andThen_ok,List.map_toArray,List.map_cons,List.map_nil,hs,hx,hr];exact hK _ _ (h v' w' h2 h3)
theorem OwnB.alloc {w:World} {base:Nat} {e:TypeId} {v:Value} {n:Nat} {xs:List Value} (h:OwnB w base e v n xs) (o:Obj):OwnB (w.alloc o) base e v n xs:=by
 obtain ⟨h1,g,cap,cur,fz,hv,hbg,hg,r⟩:=h;have hlt:g < w.heap.size:=(Array.getElem?_eq_some_iff.1 hg).1;exact ⟨h1,g,cap,cur,fz,hv,hbg,(heap_alloc_old w o hlt).trans hg,r⟩
theorem OwnB.slice {w:World} {base:Nat} {e:TypeId} {v:Value} {n:Nat} {xs:List Value} (h:OwnB w base e v n xs):∃ g cap,v=.slice (some ⟨g,0,none⟩) n cap∧base≤g∧g < w.heap.size:=by
 obtain ⟨h1,g,cap,cur,fz,hv,hbg,hg,r⟩:=h;exact ⟨g,cap,hv,hbg,(Array.getElem?_eq_some_iff.1 hg).1⟩
theorem owns_string {P:Program} {w:World} {base:Nat} {e:TypeId} {v:Value} {n:Nat} {l:List UInt8} (h:w.ownsRow base e 1 v n (Lib.byteCells l)) (hl:0 < l.length) (src dst:TypeId) (hs:P.underlying src=some (.slice e)) (he:P.underlying e=some (.int .u8)) (hd:P.underlying dst=some .string) :
 (convert src dst v).run P w=.ok (.string ⟨l.toArray⟩) w:=by
 have h0:=h;obtain ⟨h1,h2⟩:=h;rw [Lib.byteCells_length,Nat.mul_one] at h1;subst h1;rcases h2 with ⟨rfl,hn⟩ | ⟨g,cap,cur,rfl,hbg,hg,r⟩
 ·omega
 ·refine run_convert_bytes_back (P:=P) w src dst e ⟨g,0,none⟩ cap l hs he hd (fun j hj=>?_)
  exact h0.cells (g:=g) rfl j _ (by simp [Lib.byteCells,hj])
theorem byte_info:(Tryz.prog.info? 5).map (fun i=>(i.zero,i.size,i.bytes))=some (some (.int .u8 0),1,1):=by kernel_rfl
theorem xor_rng (a b:Int):0≤bits .xor .u32 a b∧bits .xor .u32 a b < 4294967296:=by
 show 0≤IntKind.u32.wrap ((BitVec.ofInt 32 a ^^^ BitVec.ofInt 32 b).toNat:Int)∧IntKind.u32.wrap ((BitVec.ofInt 32 a ^^^ BitVec.ofInt 32 b).toNat:Int) < 4294967296;rw [IntKind.wrap_u32'];omega
theorem hx_rng (H V:List Int) (i:Nat) (hi:i < 8):0≤at_ (hx H V 8) i∧at_ (hx H V 8) i < 4294967296:=by
 have e:at_ (hx H V 8) i=bits .xor .u32 (at_ H i) (bits .xor .u32 (at_ V i) (at_ V (i+8))):=by
  rw [← at_eq (hx H V 8) i (by rw [hx_len];exact hi)];simp [hx,hi]
 rw [e];exact xor_rng _ _
theorem foldL_rng (H:List Int) (S:List UInt8) (i:Nat) (hi:i < 8):0≤at_ (foldL H S) i∧at_ (foldL H S) i < 4294967296:=hx_rng _ _ i hi
theorem padL_step (P:List UInt8) (h:P.length < 64):padL (P++[0])=padL P:=by
 unfold padL;rw [List.append_assoc]
 congr 1
 rw [show 64 - P.length=(64 - (P++[0]).length)+1 by simp;omega,List.replicate_succ];rfl
theorem padL_full (P:List UInt8) (h:P.length=64):padL P=P:=by simp [padL,h]
attribute [local go_sem] ba_size ba_get
def vlen:Value→Nat
 | .slice _ n _=>n
 | _=>0
set_option maxHeartbeats 1000000 in
theorem rpad_any (S:List UInt8) (hS:S.length≤64) (w:World) :
 Calls Tryz.prog 91 #[.string ⟨S.toArray⟩] w fun e w'=>e=.returned (.string ⟨(padL S).toArray⟩)∧Below w.heap.size w w':=by
 obtain ⟨i0,hi,hz0,hz1,hz2⟩:=info_parts byte_info;have hcv:=Lib.run_convert_string_bytes (P:=Tryz.prog) w 9 94 5 ⟨S.toArray⟩ Tryz.underlying9 Tryz.underlying94 Tryz.underlying5
 have HO0:OwnB (Lib.bytesWorld w 5 ⟨S.toArray⟩) w.heap.size 5 (.slice (some ⟨w.heap.size,0,none⟩) S.length (grownCap w S.length 0 5)) S.length (Lib.byteCells S):=by
  have h:=ownB_of_bytes w 5 ⟨S.toArray⟩ (by rw [ba_size];unfold maxLen;omega);rw [strCells_list,ba_size] at h;exact h
 rw [ba_size] at hcv;have hb0:=bytesWorld_bel w 5 ⟨S.toArray⟩;go_enter Tryz.func91,Tryz.ntmps91
 go_wp2_with fail
 obtain ⟨w1,hw1⟩:∃ w1,Lib.bytesWorld w 5 ⟨S.toArray⟩=w1:=⟨_,rfl⟩;rw [hw1] at HO0 hb0 ⊢;clear hw1 hcv;go_loopw [3] (fun v wr=>∃ P:List UInt8,P.length≤64∧Hid (padL P=padL S)∧Hid (OwnB wr w.heap.size 5 v P.length (Lib.byteCells P))∧Below w.heap.size w wr) (fun v _=>64 - vlen v)
 case atStart=>exact ⟨S,hS,(rfl:_=_),HO0,hb0⟩
 case round =>
  obtain ⟨P,hP,hp,HO,hbw⟩:=hrel;obtain ⟨g,cap,rfl,hg1,hg2⟩:=HO.out.slice;have hbs:=hbw.size
  by_cases hlt:P.length < 64
  ·have i0':(P.length:Int) < 64:=by omega
   go_wp2_with (at_builtin;refine wpList_appendBS _ rfl _ _ 94 rfl w.heap.size 5 i0 Tryz.underlying94 hi hz0 hz1 hz2 _ _ _ rfl (HO.out.alloc _) ⟨wr.heap.size,0,none⟩ 1 1 [.int .u8 0] rfl rfl ?d1 ?d2 ?d3 ?d4 ?d5 ?_)
   case d1 =>
    intro j u hj
    match j,hj with
    | 0,hj=>simp at hj;subst hj;simp [Addr.add]
   case d2=>intro u hu;simp at hu;subst hu;rfl
   case d3=>unfold maxLen;omega
   case d4=>omega
   case d5=>simp;omega
   intro v' w2 hown' hgrow;obtain ⟨g',cap',rfl,hg3,hg4⟩:=hown'.slice;have hbn:Below w.heap.size w w2:=(hbw.alloc hbs _).grown hgrow (by simp;omega) (fun j hj=>(HO.out.lt j hj).1);go_wp2_with fail
   refine ⟨?relP,?measureP⟩
   case relP =>
    refine ⟨P++[0],by simp;omega,(padL_step P hlt).trans hp.out,?_,hbn⟩;have e:Lib.byteCells (P++[0])=Lib.byteCells P++[.int .u8 0]:=by simp [Lib.byteCells]
    rw [e,List.length_append];exact hown'
   case measureP=>simp [vlen];omega
  ·have hP64:P.length=64:=by omega
   have i0':¬ (P.length:Int) < 64:=by omega
   have hst:=HO.out.string (P:=Tryz.prog) 94 9 Tryz.underlying94 Tryz.underlying5 Tryz.underlying9;rw [hP64] at hst;go_wp2_with fail
   go_ret
   exact ⟨by rw [← hp.out,padL_full P hP64];rfl,hbw⟩
end Go.Proofs.YthamoeekiglphaaGreatDoor
namespace Go.Proofs.YthamoeekiglphaaGreatDoor
set_option maxRecDepth 100000
open Go.RowKit
set_option linter.unusedVariables false
attribute [local go_sem] wv_get wv_getE wv_set wv_size
def fsp (k:Nat):List Int:=(List.range 8).map fun i=>if i < k then at_ firstL i else 0
theorem fsp_len (k:Nat):(fsp k).length=8:=by simp [fsp]
theorem fsp_set (k:Nat):(fsp k).set k (at_ firstL k)=fsp (k+1):=by
 apply List.ext_getElem
 ·simp [fsp]
 ·intro i h1 h2
  simp only [List.getElem_set,fsp,List.getElem_map,List.getElem_range]
  by_cases h:k=i
  ·subst h;simp
  ·rw [if_neg h]
   by_cases h3:i < k
   ·rw [if_pos h3,if_pos (by omega)]
   ·rw [if_neg h3,if_neg (by omega)]
theorem fsp_8:fsp 8=firstL:=by decide
set_option maxHeartbeats 1000000 in
theorem rstart_good (k:Int) (h0:0≤k) (h1:k≤32) (w:World) :
 Calls Tryz.prog 57 #[.int .i64 k] w fun e w'=>e=.returned (.tuple #[.agg (wv (startL k)),.int .i64 0])∧Below w.heap.size w w':=by
 go_enter Tryz.func57,Tryz.ntmps57
 go_wp2_with fail
 refine (first_any _).mono ?_;rintro e w1 ⟨⟨g,rfl,hg,hrf⟩,hb1⟩;have hs1:w.heap.size+2≤g:=by simpa using hg
 have hZ1:Row w1 w.heap.size 99 Z8:=(hb1.block _ (by simp;omega)).trans (heap_alloc2_old w _ _);have hF1:Row w1 (w.heap.size+1) 99 (fsp 0):=(hb1.block _ (by simp)).trans (heap_alloc2_new w _ _);have hbw1:Below w.heap.size w w1:=(((Below.refl _ _).alloc (Nat.le_refl _) _).alloc (by simp) _).trans (hb1.mono (by simp;omega));clear hb1;go_wp2_with fail
 go_loopw [6] (fun i wr=>∃ j:Nat,j≤8∧i=.int .i64 j∧Hid (Row wr w.heap.size 99 Z8)∧Hid (Row wr (w.heap.size+1) 99 (fsp j))∧Hid (Row wr g 98 firstL)∧Below w.heap.size w wr) (fun i _=>8 - (RowKit.intOf i).toNat)
 case atStart=>exact ⟨0,by omega,rfl,hZ1,hF1,hrf,hbw1⟩
 case round =>
  obtain ⟨j,hj,rfl,HZ,HF,HL,hbw⟩:=hrel
  by_cases hlt:j < 8
  ·have i0:(j:Int) < 8:=by omega
   have lf:=fsp_len j;have c0:wr.cell? ⟨g,j,none⟩=some (.int .u32 (at_ firstL j)):=by rw [HL.out.cell j (by simpa [firstL] using hlt),at_eq]
   have c1:=HF.out.cell j (by omega);have f1:=HF.out.frozen j;go_wp2_with fail
   go_roundw
   case rel =>
    refine ⟨j+1,by omega,by go_num,HZ.out.other _ _ _ (by omega),?_,HL.out.other _ _ _ (by omega),hbw.setCell (by simp) _⟩;rw [← fsp_set j];exact HF.out.set j _
   case measure=>simp [RowKit.intOf];omega
  ·obtain rfl:j=8:=by omega
   have hL:Row wr (w.heap.size+1) 99 firstL:=by rw [← fsp_8];exact HF.out
   have c0:wr.cell? ⟨w.heap.size+1,0,none⟩=some (.int .u32 (at_ firstL 0)):=by rw [hL.cell 0 (by decide),at_eq]
   have f0:=hL.frozen 0;have x0:IntKind.i64.wrap (256*k)=256*k:=by rw [IntKind.wrap_i64];omega
   have x1:IntKind.u32.wrap (256*k)=256*k:=by rw [IntKind.wrap_u32'];omega
   obtain ⟨R,hR⟩:∃ R,startL k=R:=⟨_,rfl⟩;have lR:R.length=8:=by rw [← hR];rfl
   go_wp2_with (first | (refine wpList_load_row rfl 99 _ rfl (w.heap.size+1) rfl 99 (wv R) (0,0) _ ?hg3 Tryz.underlying99 rfl ?hi3 ?_) | (refine wpList_store_row rfl 99 _ _ rfl w.heap.size (wv R) rfl rfl 99 (wv Z8) ?hg4 ?hi4 ?ho4 ?h14 ?_))
   case hg3=>rw [← hR];unfold startL;rw [← xor_assoc32];exact hL.set 0 _
   case hi3=>rw [psize8,wv_size,lR]
   case hg4=>exact HZ.out.other _ _ _ (by omega)
   case hi4=>rw [psize8,wv_size,lR]
   case ho4=>rw [wv_size,wv_size,lR];rfl
   case h14=>exact wv_one _
   refine bodyPost_ret (v:=.tuple #[.agg (wv R),.int .i64 0]) (results_row_tmp Tryz.results57 _ _ w.heap.size 99 (wv R) (0,0) _ rfl ?_ Tryz.underlying99 rfl ?_) rfl ⟨by first | rfl | rw [hR],?_⟩
   ·exact setRow_heap _ _ _ _ _ _ (HZ.out.other _ _ _ (by omega))
   ·rw [psize8,wv_size,lR]
   ·exact below_setRow (hbw.setCell (by simp) _) (by omega) _
end Go.Proofs.YthamoeekiglphaaGreatDoor
namespace Go.Proofs.YthamoeekiglphaaGreatDoor
set_option maxRecDepth 100000
open Go.RowKit
theorem conv_row (W:World) (C:Array Value) (t:TypeId) (off n cap:Nat) (xs:List Int) (hn:xs.length=n) (hc:∀ i,i < n→C[off+i]?=some (.int .u8 (xs.getD i 0))) :
 (convert 94 9 (.slice (some ⟨W.heap.size,off,none⟩) n cap)).run Tryz.prog (W.alloc (.cells C t))=.ok (.string (strOfNums xs)) (W.alloc (.cells C t)) :=
 run_convert_bytes_arg (P:=Tryz.prog) (W.alloc (.cells C t)) 94 5 (by kernel_rfl) (by kernel_rfl) W.heap.size off n cap xs hn (fun i hi=>by rw [World.cell?_alloc_new];exact hc i hi) 9 (by kernel_rfl)
theorem conv1 (W:World) (x:Int) (t:TypeId) :
 (convert 94 9 (.slice (some ⟨W.heap.size,0,none⟩) 1 1)).run Tryz.prog (W.alloc (.cells #[.int .u8 x] t))=.ok (.string ⟨[UInt8.ofNat x.toNat].toArray⟩) (W.alloc (.cells #[.int .u8 x] t)) :=
 conv_row W _ t 0 1 1 [x] rfl (fun i hi=>by obtain rfl:i=0:=by omega
                                            rfl)
theorem conv3 (W:World) (x y z:Int) (t:TypeId) :
 (convert 94 9 (.slice (some ⟨W.heap.size,0,none⟩) 3 3)).run Tryz.prog (W.alloc (.cells #[.int .u8 x,.int .u8 y,.int .u8 z] t))=.ok (.string ⟨[UInt8.ofNat x.toNat,UInt8.ofNat y.toNat,UInt8.ofNat z.toNat].toArray⟩) (W.alloc (.cells #[.int .u8 x,.int .u8 y,.int .u8 z] t)) :=
 conv_row W _ t 0 3 3 [x,y,z] rfl (fun i hi=>by
  have:i=0∨i=1∨i=2:=by omega
  rcases this with rfl | rfl | rfl<;>rfl)
theorem conv3_1 (W:World) (x y z:Int) (t:TypeId) :
 (convert 94 9 (.slice (some ⟨W.heap.size,2,none⟩) 1 1)).run Tryz.prog (W.alloc (.cells #[.int .u8 x,.int .u8 y,.int .u8 z] t))=.ok (.string ⟨[UInt8.ofNat z.toNat].toArray⟩) (W.alloc (.cells #[.int .u8 x,.int .u8 y,.int .u8 z] t)) :=
 conv_row W _ t 2 1 1 [z] rfl (fun i hi=>by obtain rfl:i=0:=by omega
                                            rfl)
theorem nums_short (n:Nat) (h:n≤250):(⟨[UInt8.ofNat n].toArray⟩:ByteArray)=⟨(Lm.lenL n).toArray⟩:=by
 simp [Lm.lenL,h]
theorem nums_long (n:Nat) (h:¬ n≤250):(⟨[251,UInt8.ofNat ((n:Int) / 256).toNat,UInt8.ofNat ((n:Int) % 256).toNat].toArray⟩:ByteArray)=⟨(Lm.lenL n).toArray⟩:=by
 have e1:((n:Int) / 256).toNat=n / 256:=by omega
 have e2:((n:Int) % 256).toNat=n % 256:=by omega
 simp only [Lm.lenL,h,if_false,e1,e2]
attribute [local go_sem] ba_size ba_get ba_extract ba_append wrap_byte wrap_u64_byte take_drop_end
set_option maxHeartbeats 400000 in
theorem size_any (n:Nat) (hn:n≤65535) (w:World) :
 Calls Tryz.prog 88 #[.int .i64 n] w fun e w'=>e=.returned (.string ⟨(Lm.lenL n).toArray⟩)∧Below w.heap.size w w':=by
 have c1:=conv1;have c3:=conv3
 by_cases h:n≤250
 ·go_enter Tryz.func88,Tryz.ntmps88
  go_wp2
  go_ret
  exact ⟨ret_str (nums_short n h),(Below.refl _ _).alloc (Nat.le_refl _) _⟩
 ·go_enter Tryz.func88,Tryz.ntmps88
  go_wp2
  go_ret
  exact ⟨ret_str (nums_long n h),(Below.refl _ _).alloc (Nat.le_refl _) _⟩
set_option maxHeartbeats 400000 in
theorem refText_any (l:List UInt8) (hl:l.length≤9223372036854775807) (w:World) :
 Calls Tryz.prog 55 #[.string ⟨l.toArray⟩] w fun e w'=>e=.returned (.tuple #[.string ⟨(Lm.textL l).1.toArray⟩,.int .i64 ((Lm.textL l).2:Int)])∧Below w.heap.size w w':=by
 unfold Lm.textL
 by_cases h:65535 < l.length
 ·rw [if_pos h]
  go_enter Tryz.func55,Tryz.ntmps55
  go_wp2
  go_ret2
  exact ⟨rfl,Below.refl _ _⟩
 ·rw [if_neg h]
  go_enter Tryz.func55,Tryz.ntmps55
  go_wp2_with fail
  refine (size_any l.length (by omega) _).mono ?_;rintro e w1 ⟨rfl,hb1⟩;have hll:=Lm.lenL_le l.length;go_wp2_with fail
  go_ret2
  exact ⟨rfl,hb1⟩
theorem refText_ok (l:List UInt8) (h:¬ 65535 < l.length) (w:World) :
 Calls Tryz.prog 55 #[.string ⟨l.toArray⟩] w fun e w'=>e=.returned (.tuple #[.string ⟨(Lm.lenL l.length++l).toArray⟩,.int .i64 0])∧Below w.heap.size w w':=by
 have:=refText_any l (by omega) w;unfold Lm.textL at this;rw [if_neg h] at this;exact this
end Go.Proofs.YthamoeekiglphaaGreatDoor
namespace Go.Proofs.YthamoeekiglphaaGreatDoor
set_option maxRecDepth 100000
open Go.RowKit
set_option linter.unusedVariables false
attribute [local go_sem] ba_size ba_append
theorem conv2 (W:World) (x y:Int) (t:TypeId) :
 (convert 94 9 (.slice (some ⟨W.heap.size,0,none⟩) 2 2)).run Tryz.prog (W.alloc (.cells #[.int .u8 x,.int .u8 y] t))=.ok (.string ⟨[UInt8.ofNat x.toNat,UInt8.ofNat y.toNat].toArray⟩) (W.alloc (.cells #[.int .u8 x,.int .u8 y] t)) :=
 conv_row W _ t 0 2 2 [x,y] rfl (fun i hi=>by
  have:i=0∨i=1:=by omega
  rcases this with rfl | rfl<;>rfl)
abbrev evA (x:Ev):Value:=.agg #[.int .i64 x.1,.int .i64 x.2.1,.string ⟨x.2.2.1.toArray⟩,.string ⟨x.2.2.2.toArray⟩]
theorem bytesE_no (x:Ev) (h:¬ mayE x):bytesE x=([],1):=by unfold bytesE;rw [if_neg h]
theorem bytesE_ok (x:Ev) (h:mayE x):bytesE x=(bytE x,0):=by unfold bytesE;rw [if_pos h]
set_option maxHeartbeats 1000000 in
theorem rbytes6_any (k t:Int) (a b:List UInt8) (w:World) :
 Calls Tryz.prog 24 #[evA (k,t,a,b)] w fun e w'=>e=.returned (.tuple #[.string ⟨(bytesE (k,t,a,b)).1.toArray⟩,.int .i64 ((bytesE (k,t,a,b)).2:Int)])∧Below w.heap.size w w':=by
 have al:∀ o,Below w.heap.size w (w.alloc o):=fun o=>(Below.refl _ w).alloc (Nat.le_refl _) o
 have M:Hid (∀ W,Calls Tryz.prog 31 #[.agg #[.int .i64 k,.int .i64 t,.string ⟨a.toArray⟩,.string ⟨b.toArray⟩]] W fun e w'=>e=.returned (.bool (decide (mayE (k,t,a,b))))∧Below W.heap.size W w'):=fun W=>rmay_any k t a b W
 have c2:=conv2
 by_cases hm:mayE (k,t,a,b)
 ·rw [decide_eq_true hm] at M
  rw [bytesE_ok _ hm];obtain ⟨⟨k1,k2,t1,t2⟩,hr⟩:=hm;simp only at k1 k2 t1 t2 hr;have u1:IntKind.u8.wrap k=k:=by rw [IntKind.wrap_u8];omega
  have u2:IntKind.u8.wrap t=t:=by rw [IntKind.wrap_u8];omega
  by_cases hk:keyedE k
  ·rw [if_pos hk] at hr
   have HE:Hid (bytE (k,t,a,b)=[UInt8.ofNat k.toNat,UInt8.ofNat t.toNat]++(Lm.lenL a.length++a)++(Lm.lenL b.length++b)):=by
    show _=_;unfold bytE txtE;simp only;rw [if_pos hk];simp
   have T1:=fun W=>refText_ok a (by omega) W
   have T2:=fun W=>refText_ok b (by omega) W
   have l1:=Lm.lenL_le a.length;have l2:=Lm.lenL_le b.length;have z1:(Lm.lenL a.length++a).length≤65538:=by rw [List.length_append];omega
   have z2:(Lm.lenL b.length++b).length≤65538:=by rw [List.length_append];omega
   obtain ⟨x,hx⟩:∃ x,Lm.lenL a.length++a=x:=⟨_,rfl⟩;obtain ⟨y,hy⟩:∃ x,Lm.lenL b.length++b=x:=⟨_,rfl⟩;rw [hx] at T1 HE z1;rw [hy] at T2 HE z2;rw [HE.out];clear hx hy l1 l2 hr;have z3:2+x.length≤9223372036854775807:=by omega
   have z4:2+x.length+y.length≤9223372036854775807:=by omega
   unfold keyedE at hk;rcases hk with rfl | rfl
   all_goals
    go_enter Tryz.func24,Tryz.ntmps24
    go_wp2_with fail
    refine (M.out _).mono ?_;rintro e w1 ⟨rfl,b1⟩;have B1:=bel_trans (al _) b1;have x0:=box_cell b1 0 _ rfl;have x1:=box_cell b1 1 _ rfl;have y0:=box_cell_al b1 0 _ rfl;have y2:=box_cell_al b1 2 _ rfl;go_wp2_with fail
    refine (T1 _).mono ?_;rintro e w2 ⟨rfl,b2⟩;have b2':=bel_trans (b1.alloc b1.size _) b2;have x3:=box_cell b2' 3 _ rfl;go_wp2_with fail
    refine (T2 _).mono ?_;rintro e w3 ⟨rfl,b3⟩;have B3:=bel_trans (al _) (bel_trans b2' b3);go_wp2_with fail
    go_ret2
    exact ⟨rfl,B3⟩
  ·rw [if_neg hk] at hr
   obtain ⟨rfl,rfl⟩:=hr
   have HE:Hid (bytE (k,t,[],[])=[UInt8.ofNat k.toNat,UInt8.ofNat t.toNat]):=by
    show _=_;unfold bytE;simp only;rw [if_neg hk]
   rw [HE.out];have q1:(k==2)=false:=by rw [beq_eq_false_iff_ne];exact fun h=>hk (Or.inl h)
   have q2:(k==3)=false:=by rw [beq_eq_false_iff_ne];exact fun h=>hk (Or.inr h)
   clear hk;go_enter Tryz.func24,Tryz.ntmps24
   go_wp2_with fail
   refine (M.out _).mono ?_;rintro e w1 ⟨rfl,b1⟩;have B1:=bel_trans (al _) b1;have x0:=box_cell b1 0 _ rfl;have x1:=box_cell b1 1 _ rfl;have y0:=box_cell_al b1 0 _ rfl;go_wp2_with fail
   go_ret2
   exact ⟨rfl,B1.alloc B1.size _⟩
 ·rw [decide_eq_false hm] at M
  rw [bytesE_no _ hm];clear hm;go_enter Tryz.func24,Tryz.ntmps24
  go_wp2_with fail
  refine (M.out _).mono ?_;rintro e w1 ⟨rfl,b1⟩;have B1:=bel_trans (al _) b1;go_wp2_with fail
  go_ret2
  exact ⟨rfl,B1⟩
end Go.Proofs.YthamoeekiglphaaGreatDoor
