/-
  Roots, proofs and what they give away, in lists, over whatever sum: of no program. What proofs show (P15.1 to P15.4): in lists, of no program. What follows of r
-/
import Derived.Test.YthamoeekiglphaaGreatDoorEL0b
import Derived.Deep.Cut
import Derived.Lib.AppendStr
import Derived.Lib.UnsafeStr
import Derived.Lib.Hide
import Derived.Deep.QuietTactic
import Derived.Maps.AppendAt
namespace Go.Proofs.YthamoeekiglphaaGreatDoor
set_option maxRecDepth 100000
set_option linter.unusedVariables false
def leafI (s:List UInt8):List UInt8:=0::s
def nodeI (a b:List UInt8):List UInt8:=1::(a++b)
def rootI (n:Nat) (c:List UInt8):List UInt8:=2::(Lm.numL n++c)
def hfGo:Nat→Nat→Nat→Nat
 | 0,k,_=>k
 | f+1,k,n=>if k+k < n then hfGo f (k+k) n else k
def hf (n:Nat):Nat:=hfGo n 1 n
theorem hfGo_step (f k n:Nat) (h1:1≤k) (hf:n≤f+k) (h:k+k < n):∃ f',hfGo f k n=hfGo f' (k+k) n∧n≤f'+(k+k):=by
 cases f with
 | zero=>omega
 | succ f=>exact ⟨f,by rw [hfGo,if_pos h],by omega⟩
theorem hfGo_end (f k n:Nat) (h:¬ k+k < n):hfGo f k n=k:=by
 cases f with
 | zero=>rfl
 | succ f=>rw [hfGo,if_neg h]
theorem hfGo_facts:∀ (f k n:Nat),1≤k→n≤f+k→1≤hfGo f k n∧(k < n→hfGo f k n < n)∧n≤2*hfGo f k n:=by
 intro f
 induction f with
 | zero=>intro k n h1 h2;refine ⟨h1,fun h=>h,?_⟩;rw [hfGo];omega
 | succ f ih =>
   intro k n h1 h2;rw [hfGo]
   by_cases h:k+k < n
   ·rw [if_pos h]
    have:=ih (k+k) n (by omega) (by omega);exact ⟨this.1,fun _=>this.2.1 h,this.2.2⟩
   ·rw [if_neg h]
    exact ⟨h1,fun h=>h,by omega⟩
theorem hf_pos (n:Nat):1≤hf n:=(hfGo_facts n 1 n (by omega) (by omega)).1
theorem hf_lt (n:Nat) (h:2≤n):hf n < n:=(hfGo_facts n 1 n (by omega) (by omega)).2.1 (by omega)
theorem hf_ge (n:Nat):n≤2*hf n:=(hfGo_facts n 1 n (by omega) (by omega)).2.2
def topL (sm:List UInt8→List UInt8) (l:List (List UInt8)):List UInt8 :=
 if h:l.length≤1 then leafI (l.headD []) else nodeI (sm (topL sm (l.take (hf l.length)))) (sm (topL sm (l.drop (hf l.length))))
 termination_by l.length
 decreasing_by
  ·have:=hf_lt l.length (by omega);simp;omega
  ·have:=hf_pos l.length;simp;omega
theorem topL_one (sm:List UInt8→List UInt8) (s:List UInt8):topL sm [s]=leafI s:=by rw [topL];rfl
theorem topL_more (sm:List UInt8→List UInt8) (l:List (List UInt8)) (h:2≤l.length):topL sm l=nodeI (sm (topL sm (l.take (hf l.length)))) (sm (topL sm (l.drop (hf l.length)))):=by
 rw [topL,dif_neg (by omega)]
def crownL (sm:List UInt8→List UInt8) (l:List (List UInt8)):List UInt8:=if l.length=0 then [] else sm (topL sm l)
def rootL (sm:List UInt8→List UInt8) (l:List (List UInt8)):List UInt8:=sm (rootI l.length (crownL sm l))
def pathL (sm:List UInt8→List UInt8) (l:List (List UInt8)) (i:Nat):List (List UInt8) :=
 if h:l.length≤1 then [] else if i < hf l.length then pathL sm (l.take (hf l.length)) i++[crownL sm (l.drop (hf l.length))] else pathL sm (l.drop (hf l.length)) (i - hf l.length)++[crownL sm (l.take (hf l.length))]
 termination_by l.length
 decreasing_by
  ·have:=hf_lt l.length (by omega);simp;omega
  ·have:=hf_pos l.length;simp;omega
theorem pathL_one (sm:List UInt8→List UInt8) (l:List (List UInt8)) (i:Nat) (h:l.length≤1):pathL sm l i=[]:=by rw [pathL,dif_pos h]
theorem pathL_left (sm:List UInt8→List UInt8) (l:List (List UInt8)) (i:Nat) (h:2≤l.length) (hi:i < hf l.length):pathL sm l i=pathL sm (l.take (hf l.length)) i++[crownL sm (l.drop (hf l.length))]:=by
 rw [pathL,dif_neg (by omega),if_pos hi]
theorem pathL_right (sm:List UInt8→List UInt8) (l:List (List UInt8)) (i:Nat) (h:2≤l.length) (hi:¬ i < hf l.length):pathL sm l i=pathL sm (l.drop (hf l.length)) (i - hf l.length)++[crownL sm (l.take (hf l.length))]:=by
 rw [pathL,dif_neg (by omega),if_neg hi]
def inL (sm:List UInt8→List UInt8) (n i:Nat) (s:List UInt8) (p:List (List UInt8)):Option (List (List UInt8)) :=
 if h:n≤1 then (if p.length=0 then some [leafI s] else none) else
  if p.length=0 then none else
   if i < hf n then (inL sm (hf n) i s p.dropLast).map fun l=>l++[nodeI (sm (l.getLastD [])) (p.getLastD [])]
   else (inL sm (n - hf n) (i - hf n) s p.dropLast).map fun l=>l++[nodeI (p.getLastD []) (sm (l.getLastD []))]
 termination_by n
 decreasing_by
  ·exact hf_lt n (by omega)
  ·have:=hf_pos n;omega
theorem inL_one (sm:List UInt8→List UInt8) (n i:Nat) (s:List UInt8) (p:List (List UInt8)) (h:n≤1):inL sm n i s p=if p.length=0 then some [leafI s] else none:=by rw [inL,dif_pos h]
theorem inL_none (sm:List UInt8→List UInt8) (n i:Nat) (s:List UInt8) (p:List (List UInt8)) (h:2≤n) (hp:p.length=0):inL sm n i s p=none:=by rw [inL,dif_neg (by omega),if_pos hp]
theorem inL_left (sm:List UInt8→List UInt8) (n i:Nat) (s:List UInt8) (p:List (List UInt8)) (h:2≤n) (hp:p.length≠0) (hi:i < hf n):inL sm n i s p=(inL sm (hf n) i s p.dropLast).map fun l=>l++[nodeI (sm (l.getLastD [])) (p.getLastD [])]:=by
 rw [inL,dif_neg (by omega),if_neg hp,if_pos hi]
theorem inL_right (sm:List UInt8→List UInt8) (n i:Nat) (s:List UInt8) (p:List (List UInt8)) (h:2≤n) (hp:p.length≠0) (hi:¬ i < hf n):inL sm n i s p=(inL sm (n - hf n) (i - hf n) s p.dropLast).map fun l=>l++[nodeI (p.getLastD []) (sm (l.getLastD []))]:=by
 rw [inL,dif_neg (by omega),if_neg hp,if_neg hi]
def unL (sm:List UInt8→List UInt8) (a b:List UInt8):Option (List UInt8 × List UInt8):=if a≠b∧sm a=sm b then some (a,b) else none
def climbL (sm:List UInt8→List UInt8) (n i:Int) (s:List UInt8) (p:List (List UInt8)):List (List UInt8) × Nat :=
 if n < 1∨4096 < n∨i < 0∨n≤i then ([],1) else
  if ∃ x∈p,x.length≠32 then ([],14) else
   match inL sm n.toNat i.toNat s p with
   | none=>([],14)
   | some l=>(l++[rootI n.toNat (sm (l.getLastD []))],0)
def checkL (sm:List UInt8→List UInt8) (root:List UInt8) (n i:Int) (s:List UInt8) (p:List (List UInt8)):Nat :=
 if (climbL sm n i s p).2≠0 then (climbL sm n i s p).2 else if sm ((climbL sm n i s p).1.getLastD [])≠root then 13 else 0
def backL (sm:List UInt8→List UInt8) (x y:List (List UInt8)):Nat→Option (List UInt8 × List UInt8)
 | 0=>none
 | k+1=>if x.getD k []≠y.getD k [] then unL sm (x.getD k []) (y.getD k []) else backL sm x y k
def clashL (sm:List UInt8→List UInt8) (n i:Int) (a:List UInt8) (p:List (List UInt8)) (b:List UInt8) (q:List (List UInt8)):Option (List UInt8 × List UInt8) :=
 if (climbL sm n i a p).2≠0∨(climbL sm n i b q).2≠0 then none else backL sm (climbL sm n i a p).1 (climbL sm n i b q).1 (climbL sm n i a p).1.length
def zPf:Pf:=(0,(0,0,[],[]),[])
def pf15 (l:List Pf) (k:Nat):Pf:=l.getD k zPf
def fp (f:Pf→Bool) (l:List Pf):Option Nat:=fi (fun k=>f (pf15 l k)) l.length
def pAt (i:Int) (p:Pf):Bool:=decide (p.1=i)
def pEnd (t:Int) (p:Pf):Bool:=decide (p.2.1.2.1=t)&&(decide (p.2.1.1=4) || decide (p.2.1.1=5))
def pWr (key val:List UInt8) (p:Pf):Bool:=decide (p.2.1.1=3)&&decide (p.2.1.2.2.1=key)&&decide (p.2.1.2.2.2=val)
def gotO (l:List Pf):Option Nat→Pf
 | none=>zPf
 | some k=>pf15 l k
def evP (l:List Pf) (i:Int):Ev:=(gotO l (fp (pAt i) l)).2.1
def endP (l:List Pf) (t:Int):Pf:=gotO l (fp (pEnd t) l)
def comP (l:List Pf) (t:Int):Int:=if (endP l t).2.1.1=4 then (endP l t).1 else -1
def cmP (l:List Pf) (t:Int):Int:=if (endP l t).2.1.1=4∧0≤(endP l t).1 then (endP l t).1 else -1
def wrP (l:List Pf) (key val:List UInt8):Option Nat:=fp (pWr key val) l
def overB (l:List Pf) (x:Ev) (t:Int) (p:Int):Bool:=decide (x.2.2.2≠[])&&(match wrP l x.2.2.1 x.2.2.2 with
 | none=>false
 | some k=>decide ((pf15 l k).1 < p)&&decide ((pf15 l k).2.1.2.1=t))
def lastB (l:List Pf) (x:Ev) (i j:Int):Bool:=decide (x.2.2.2=[]) || (match wrP l x.2.2.1 x.2.2.2 with
 | none=>false
 | some k=>decide ((pf15 l k).2.1.2.1≠x.2.1) || decide ((pf15 l k).1 < j) || decide (i < (pf15 l k).1))
def aheadP (l:List Pf) (x:Ev) (to:Int):Bool:=decide (x.2.2.2=[]) || (match wrP l x.2.2.1 x.2.2.2 with
 | none=>false
 | some k=>decide (0≤comP l (pf15 l k).2.1.2.1)&&decide (comP l (pf15 l k).2.1.2.1 < to))
def kindB (l:List Pf) (b:Int × Int × Int) (x y:Ev):Bool :=
 if b.1=1 then !decide (y.2.1=x.2.1)&&decide (y.2.2.2=x.2.2.2)&&decide ((endP l y.2.1).2.1.1=5)
 else if b.1=2 then !decide (y.2.1=x.2.1)&&!decide (y.2.2.2=x.2.2.2)&&overB l x y.2.1 b.2.2
 else if b.1=3 then decide (y.2.1=x.2.1)&&!decide (y.2.2.2=x.2.2.2)&&decide (b.2.2 < b.2.1)&&lastB l x b.2.1 b.2.2
 else if b.1=4 then decide (y.2.1=x.2.1)&&decide (y.2.2.2=x.2.2.2)&&decide (b.2.1 < b.2.2)
 else false
def badB (l:List Pf) (b:Int × Int × Int):Bool :=
 decide (0≤b.2.1)&&decide ((evP l b.2.1).1=2)&&decide (b.2.1 < comP l (evP l b.2.1).2.1)&&decide ((evP l b.2.2).1=3)&&decide ((evP l b.2.2).2.2.1=(evP l b.2.1).2.2.1)&&kindB l b (evP l b.2.1) (evP l b.2.2)
def kindE (l:List Pf) (e:Ed) (x y:Ev):Bool :=
 if e.1=1 then decide (x.1=3)&&decide (y.1=3)&&decide (comP l e.2.1 < comP l e.2.2.1)
 else if e.1=2 then decide (x.1=3)&&decide (y.1=2)&&decide (x.2.2.2=y.2.2.2)
 else if e.1=3 then decide (x.1=2)&&decide (y.1=3)&&aheadP l x (comP l e.2.2.1)
 else false
def edgeB (l:List Pf) (e:Ed):Bool :=
 decide (e.2.1≠e.2.2.1)&&decide (0≤comP l e.2.1)&&decide (0≤comP l e.2.2.1)&&decide ((evP l e.2.2.2.1).2.1=e.2.1)&&decide ((evP l e.2.2.2.2).2.1=e.2.2.1)&&decide ((evP l e.2.2.2.1).2.2.1=(evP l e.2.2.2.2).2.2.1)&&kindE l e (evP l e.2.2.2.1) (evP l e.2.2.2.2)
def nxE (r:List Ed) (k:Nat):Ed:=r.getD ((k+1) % r.length) (0,0,0,0,0)
def rgK (l:List Pf) (level:Int) (r:List Ed) (k:Nat):Bool:=edgeB l (r.getD k (0,0,0,0,0))&&decide ((r.getD k (0,0,0,0,0)).2.2.1=(nxE r k).2.1)&&!(decide (level=2)&&decide ((r.getD k (0,0,0,0,0)).1=3)&&decide ((nxE r k).1=3))
def rgU (l:List Pf) (level:Int) (r:List Ed) (n:Nat):Bool:=(List.range n).all (rgK l level r)
def ringB (l:List Pf) (level:Int) (r:List Ed):Bool:=decide (r≠[])&&rgU l level r r.length
def pfK15 (sm:List UInt8→List UInt8) (root:List UInt8) (n:Int) (l:List Pf) (k:Nat):Bool :=
 (decide (k=0) || decide ((pf15 l (k - 1)).1 < (pf15 l k).1))&&decide (checkL sm root n (pf15 l k).1 (bytE (pf15 l k).2.1) (pf15 l k).2.2=0)
def pfU15 (sm:List UInt8→List UInt8) (root:List UInt8) (n:Int) (l:List Pf) (m:Nat):Bool:=(List.range m).all (pfK15 sm root n l)
def provL (sm:List UInt8→List UInt8) (c:Ct) (root:List UInt8):Int :=
 if ¬ mayC c then 1 else if c.2.2.2.1≠root then 13 else if pfU15 sm root c.2.2.2.2.1 c.2.2.2.2.2.2 c.2.2.2.2.2.2.length=true then 0 else 14
def leanL (sm:List UInt8→List UInt8) (c:Ct) (root:List UInt8):Int :=
 if provL sm c root≠0 then provL sm c root
 else if c.2.2.2.2.2.1.2.1=true then 9
 else if c.2.2.2.2.2.1.2.2.1≠[] then 14
 else if c.2.2.2.2.2.1.2.2.2.1.1≠0 then (if c.2.2.2.2.2.1.2.2.2.2=[]∧badB c.2.2.2.2.2.2 c.2.2.2.2.2.1.2.2.2.1=true then 0 else 14)
 else if ringB c.2.2.2.2.2.2 c.2.2.2.2.2.1.1 c.2.2.2.2.2.1.2.2.2.2=true then 0 else 14
theorem all_no (f:Nat→Bool) {n k:Nat} (hk:k < n) (h:f k=false):(List.range n).all f=false:=by
 rw [List.all_eq_false];exact ⟨k,List.mem_range.2 hk,by rw [h];simp⟩
theorem all_at (f:Nat→Bool) {n k:Nat} (hk:k < n) (h:(List.range n).all f=true):f k=true:=List.all_eq_true.1 h k (List.mem_range.2 hk)
theorem pf15_at (l:List Pf) (k:Nat) (h:k < l.length):pf15 l k=l[k]:=by simp [pf15,List.getD,h]
theorem fp_some (f:Pf→Bool) (l:List Pf) (k:Nat):fp f l=some k↔k < l.length∧f (pf15 l k)=true∧∀ j,j < k→f (pf15 l j)=false:=fi_some _ _ _
theorem fp_more (f:Pf→Bool) (l m:List Pf) (k:Nat) (h:fp f l=some k):fp f (l++m)=some k:=by
 obtain ⟨h1,h2,h3⟩:=(fp_some f l k).1 h;have hg:∀ j,j < l.length→pf15 (l++m) j=pf15 l j:=fun j hj=>by simp [pf15,List.getD,List.getElem?_append_left hj]
 refine (fp_some f _ k).2 ⟨by rw [List.length_append];omega,by rw [hg k h1];exact h2,fun j hj=>by rw [hg j (by omega)];exact h3 j hj⟩
theorem got_more (l m:List Pf) (k:Nat) (h:k < l.length):pf15 (l++m) k=pf15 l k:=by simp [pf15,List.getD,List.getElem?_append_left h]
theorem fp_lt {f:Pf→Bool} {l:List Pf} {k:Nat} (h:fp f l=some k):k < l.length:=((fp_some f l k).1 h).1
theorem gotO_more (f:Pf→Bool) (l m:List Pf) (h:(gotO l (fp f l)).2.1.1≠0):gotO (l++m) (fp f (l++m))=gotO l (fp f l):=by
 cases hf:fp f l with
 | none=>rw [hf] at h;exact absurd rfl h
 | some k =>
   rw [fp_more f l m k hf];exact got_more l m k (fp_lt hf)
theorem evP_more (l m:List Pf) (i:Int) (h:(evP l i).1≠0):evP (l++m) i=evP l i:=by
 unfold evP at h ⊢;rw [gotO_more _ l m h]
theorem endP_more (l m:List Pf) (t:Int) (h:(endP l t).2.1.1≠0):endP (l++m) t=endP l t:=gotO_more _ l m h
theorem comP_more (l m:List Pf) (t:Int) (h:0≤comP l t):comP (l++m) t=comP l t:=by
 unfold comP at h ⊢
 by_cases h4:(endP l t).2.1.1=4
 ·rw [endP_more l m t (by rw [h4];decide)]
 ·rw [if_neg h4] at h;omega
theorem wrP_more (l m:List Pf) (a b:List UInt8) (k:Nat) (h:wrP l a b=some k):wrP (l++m) a b=some k:=fp_more _ l m k h
theorem overB_more (l m:List Pf) (x:Ev) (t p:Int) (h:overB l x t p=true):overB (l++m) x t p=true:=by
 unfold overB at h ⊢;cases hw:wrP l x.2.2.1 x.2.2.2 with
 | none=>rw [hw] at h;simp at h
 | some k=>rw [hw] at h;rw [wrP_more l m _ _ k hw];simp only;rw [got_more l m k (fp_lt hw)];exact h
theorem lastB_more (l m:List Pf) (x:Ev) (i j:Int) (h:lastB l x i j=true):lastB (l++m) x i j=true:=by
 unfold lastB at h ⊢;cases hw:wrP l x.2.2.1 x.2.2.2 with
 | none=>rw [hw] at h;simp only [Bool.or_false] at h;rw [h];rfl
 | some k=>rw [hw] at h;rw [wrP_more l m _ _ k hw];simp only;rw [got_more l m k (fp_lt hw)];exact h
theorem aheadP_more (l m:List Pf) (x:Ev) (to:Int) (h:aheadP l x to=true):aheadP (l++m) x to=true:=by
 unfold aheadP at h ⊢;cases hw:wrP l x.2.2.1 x.2.2.2 with
 | none=>rw [hw] at h;simp only [Bool.or_false] at h;rw [h];rfl
 | some k =>
   rw [hw] at h;rw [wrP_more l m _ _ k hw];simp only at h ⊢;rw [got_more l m k (fp_lt hw)];simp only [Bool.or_eq_true,Bool.and_eq_true,decide_eq_true_eq] at h ⊢;rcases h with h | ⟨h1,h2⟩
   ·exact .inl h
   ·rw [comP_more l m _ h1];exact .inr ⟨h1,h2⟩
theorem badB_more (l m:List Pf) (b:Int × Int × Int) (h:badB l b=true):badB (l++m) b=true:=by
 unfold badB at h;simp only [Bool.and_eq_true,decide_eq_true_eq] at h;obtain ⟨⟨⟨⟨⟨h1,h2⟩,h3⟩,h4⟩,h5⟩,h6⟩:=h;unfold badB;rw [evP_more l m b.2.1 (by rw [h2];decide),evP_more l m b.2.2 (by rw [h4];decide),comP_more l m _ (by omega)];simp only [Bool.and_eq_true,decide_eq_true_eq];refine ⟨⟨⟨⟨⟨h1,h2⟩,h3⟩,h4⟩,h5⟩,?_⟩;unfold kindB at h6 ⊢
 split
 ·rename_i hk
  rw [if_pos hk] at h6;simp only [Bool.and_eq_true,decide_eq_true_eq] at h6 ⊢;rw [endP_more l m _ (by rw [h6.2];decide)];exact h6
 ·rename_i hk
  rw [if_neg hk] at h6
  split
  ·rename_i hk2
   rw [if_pos hk2] at h6;simp only [Bool.and_eq_true] at h6 ⊢;exact ⟨h6.1,overB_more l m _ _ _ h6.2⟩
  ·rename_i hk2
   rw [if_neg hk2] at h6
   split
   ·rename_i hk3
    rw [if_pos hk3] at h6;simp only [Bool.and_eq_true] at h6 ⊢;exact ⟨h6.1,lastB_more l m _ _ _ h6.2⟩
   ·rename_i hk3
    rw [if_neg hk3] at h6;exact h6
theorem edgeB_more (l m:List Pf) (e:Ed) (h:edgeB l e=true):edgeB (l++m) e=true:=by
 unfold edgeB at h;simp only [Bool.and_eq_true,decide_eq_true_eq] at h;obtain ⟨⟨⟨⟨⟨⟨h1,h2⟩,h3⟩,h4⟩,h5⟩,h6⟩,h7⟩:=h
 have hx:(evP l e.2.2.2.1).1≠0∧(evP l e.2.2.2.2).1≠0:=by
  unfold kindE at h7
  repeat' split at h7
  all_goals (try simp only [Bool.and_eq_true,decide_eq_true_eq] at h7)
  all_goals (try (constructor<;>omega))
  cases h7
 unfold edgeB;rw [evP_more l m _ hx.1,evP_more l m _ hx.2,comP_more l m _ h2,comP_more l m _ h3];simp only [Bool.and_eq_true,decide_eq_true_eq];refine ⟨⟨⟨⟨⟨⟨h1,h2⟩,h3⟩,h4⟩,h5⟩,h6⟩,?_⟩;unfold kindE at h7 ⊢;rw [comP_more l m _ h2,comP_more l m _ h3]
 split
 ·rename_i hk;rw [if_pos hk] at h7;exact h7
 ·rename_i hk
  rw [if_neg hk] at h7
  split
  ·rename_i hk2;rw [if_pos hk2] at h7;exact h7
  ·rename_i hk2
   rw [if_neg hk2] at h7
   split
   ·rename_i hk3
    rw [if_pos hk3] at h7;simp only [Bool.and_eq_true] at h7 ⊢;exact ⟨h7.1,aheadP_more l m _ _ h7.2⟩
   ·rename_i hk3;rw [if_neg hk3] at h7;exact h7
def peOf (p:Pf):Pe:=(p.1,p.2.1)
theorem fp_find (f:Pf→Bool):∀ l:List Pf,(fp f l).map (pf15 l)=l.find? f
 | []=>rfl
 | p::l=>by
   have ih:=fp_find f l
   by_cases h:f p=true
   ·rw [List.find?_cons_of_pos h]
    rw [(fp_some f (p::l) 0).2 ⟨by simp,h,fun j hj=>absurd hj (by omega)⟩];rfl
   ·rw [List.find?_cons_of_neg h,← ih]
    cases hf:fp f l with
    | none =>
      have hn:=(fi_none _ _).1 hf
      rw [show fp f (p::l)=none from (fi_none _ _).2 (fun j hj=>by
       cases j with
       | zero=>exact Bool.eq_false_iff.2 h
       | succ j=>exact hn j (by simp at hj;omega))]
      rfl
    | some k =>
      obtain ⟨h1,h2,h3⟩:=(fp_some f l k).1 hf
      rw [(fp_some f (p::l) (k+1)).2 ⟨by simp;omega,h2,fun j hj=>by
       cases j with
       | zero=>exact Bool.eq_false_iff.2 h
       | succ j=>exact h3 j (by omega)⟩]
      rfl
theorem find_pe (g:Pe→Bool) (l:List Pf):(l.map peOf).find? g=(l.find? fun p=>g (peOf p)).map peOf:=by
 rw [List.find?_map];rfl
theorem peAt_of (l:List Pf) (i:Int) (h:(evP l i).1≠0):∃ p,peAt (l.map peOf) i=some p∧p.2=evP l i:=by
 unfold peAt;rw [find_pe];unfold evP at h ⊢;have hf:=fp_find (pAt i) l;cases hk:fp (pAt i) l with
 | none=>rw [hk] at h;exact absurd rfl h
 | some k =>
   rw [hk] at hf;have:(l.find? fun p=>decide ((peOf p).1=i))=some (pf15 l k):=hf.symm;rw [this];exact ⟨_,rfl,rfl⟩
theorem peEnd_of (l:List Pf) (t:Int) (h:(endP l t).2.1.1≠0):peEnd (l.map peOf) t=some (peOf (endP l t)):=by
 unfold peEnd;rw [find_pe];unfold endP at h ⊢;have hf:=fp_find (pEnd t) l;cases hk:fp (pEnd t) l with
 | none=>rw [hk] at h;exact absurd rfl h
 | some k =>
   rw [hk] at hf
   have hg:(fun p:Pf=>decide ((peOf p).2.2.1=t∧((peOf p).2.1=4∨(peOf p).2.1=5)))=pEnd t:=by
    funext p
    show decide (p.2.1.2.1=t∧(p.2.1.1=4∨p.2.1.1=5))=(decide (p.2.1.2.1=t)&&(decide (p.2.1.1=4) || decide (p.2.1.1=5)));rw [Bool.eq_iff_iff];simp
   rw [hg,← hf];rfl
theorem peComm_of (l:List Pf) (t:Int) (h:0≤comP l t):peComm (l.map peOf) t=some (comP l t):=by
 unfold comP at h ⊢
 by_cases h4:(endP l t).2.1.1=4
 ·rw [if_pos h4] at h ⊢
  unfold peComm;rw [peEnd_of l t (by rw [h4];decide)];simp only;rw [if_pos ⟨h4,h⟩];rfl
 ·rw [if_neg h4] at h;omega
theorem peWr_of (l:List Pf) (a b:List UInt8) (k:Nat) (h:wrP l a b=some k):peWr (l.map peOf) a b=some (peOf (pf15 l k)):=by
 unfold peWr;rw [find_pe];have hf:=fp_find (pWr a b) l;unfold wrP at h;rw [h] at hf
 have hg:(fun p:Pf=>decide ((peOf p).2.1=3∧(peOf p).2.2.2.1=a∧(peOf p).2.2.2.2=b))=pWr a b:=by
  funext p
  show decide (p.2.1.1=3∧p.2.1.2.2.1=a∧p.2.1.2.2.2=b)=(decide (p.2.1.1=3)&&decide (p.2.1.2.2.1=a)&&decide (p.2.1.2.2.2=b));rw [Bool.eq_iff_iff];simp [and_assoc]
 rw [hg,← hf];rfl
theorem badB_shows (l:List Pf) (b:Int × Int × Int) (h:badB l b=true):badShows (l.map peOf) b:=by
 unfold badB at h;simp only [Bool.and_eq_true,decide_eq_true_eq] at h;obtain ⟨⟨⟨⟨⟨h1,h2⟩,h3⟩,h4⟩,h5⟩,h6⟩:=h;obtain ⟨x,x1,x2⟩:=peAt_of l b.2.1 (by rw [h2];decide);obtain ⟨y,y1,y2⟩:=peAt_of l b.2.2 (by rw [h4];decide);have hc:=peComm_of l _ (show 0≤comP l (evP l b.2.1).2.1 by omega);refine ⟨h1,x,y,_,x1,y1,by rw [x2];exact h2,by rw [y2];exact h4,by rw [x2,y2];exact h5.symm,by rw [x2];exact hc,h3,?_⟩;rw [x2,y2];generalize evP l b.2.1=X at *;generalize evP l b.2.2=Y at *;unfold kindB at h6
 split at h6
 ·rename_i hk
  simp only [Bool.and_eq_true,Bool.not_eq_true',decide_eq_true_eq,decide_eq_false_iff_not] at h6;exact .inl ⟨hk,h6.1.2,h6.1.1,_,peEnd_of l _ (by rw [h6.2];decide),h6.2⟩
 ·split at h6
  ·rename_i hk
   simp only [Bool.and_eq_true,Bool.not_eq_true',decide_eq_false_iff_not] at h6;obtain ⟨⟨g1,g2⟩,g3⟩:=h6;unfold overB at g3;cases hw:wrP l X.2.2.1 X.2.2.2 with
   | none=>rw [hw] at g3;simp at g3
   | some k =>
     rw [hw] at g3;simp only [Bool.and_eq_true,decide_eq_true_eq] at g3;exact .inr (.inl ⟨hk,g1,g2,g3.1,_,peWr_of l _ _ k hw,g3.2.1,g3.2.2⟩)
  ·split at h6
   ·rename_i hk
    simp only [Bool.and_eq_true,Bool.not_eq_true',decide_eq_true_eq,decide_eq_false_iff_not] at h6;obtain ⟨⟨⟨g1,g2⟩,g3⟩,g4⟩:=h6;refine .inr (.inr (.inl ⟨hk,g1,g3,g2,?_⟩));unfold lastB at g4;cases hw:wrP l X.2.2.1 X.2.2.2 with
    | none=>rw [hw] at g4;simp only [Bool.or_false,decide_eq_true_eq] at g4;exact .inl g4
    | some k =>
      rw [hw] at g4;simp only [Bool.or_eq_true,decide_eq_true_eq] at g4;rcases g4 with g4 | (g4 | g4) | g4
      ·exact .inl g4
      ·exact .inr ⟨_,peWr_of l _ _ k hw,.inl g4⟩
      ·exact .inr ⟨_,peWr_of l _ _ k hw,.inr (.inl g4)⟩
      ·exact .inr ⟨_,peWr_of l _ _ k hw,.inr (.inr g4)⟩
   ·split at h6
    ·rename_i hk
     simp only [Bool.and_eq_true,decide_eq_true_eq] at h6;exact .inr (.inr (.inr ⟨hk,h6.1.1,h6.2,h6.1.2⟩))
    ·cases h6
theorem edgeB_shows (l:List Pf) (e:Ed) (h:edgeB l e=true):edgeShows (l.map peOf) e:=by
 unfold edgeB at h;simp only [Bool.and_eq_true,decide_eq_true_eq] at h;obtain ⟨⟨⟨⟨⟨⟨h1,h2⟩,h3⟩,h4⟩,h5⟩,h6⟩,h7⟩:=h
 have hx:(evP l e.2.2.2.1).1≠0∧(evP l e.2.2.2.2).1≠0:=by
  unfold kindE at h7
  repeat' split at h7
  all_goals (try simp only [Bool.and_eq_true,decide_eq_true_eq] at h7)
  all_goals (try (constructor<;>omega))
  cases h7
 obtain ⟨x,x1,x2⟩:=peAt_of l _ hx.1;obtain ⟨y,y1,y2⟩:=peAt_of l _ hx.2;refine ⟨x,y,_,_,x1,y1,peComm_of l _ h2,peComm_of l _ h3,h1,by rw [x2];exact h4,by rw [y2];exact h5,by rw [x2,y2];exact h6,?_⟩;rw [x2,y2];generalize evP l e.2.2.2.1=X at *;generalize evP l e.2.2.2.2=Y at *;unfold kindE at h7
 split at h7
 ·rename_i hk
  simp only [Bool.and_eq_true,decide_eq_true_eq] at h7;exact .inl ⟨hk,h7.1.1,h7.1.2,h7.2⟩
 ·split at h7
  ·rename_i hk
   simp only [Bool.and_eq_true,decide_eq_true_eq] at h7;exact .inr (.inl ⟨hk,h7.1.1,h7.1.2,h7.2⟩)
  ·split at h7
   ·rename_i hk
    simp only [Bool.and_eq_true,decide_eq_true_eq] at h7;refine .inr (.inr ⟨hk,h7.1.1,h7.1.2,?_⟩);have g4:=h7.2;unfold aheadP at g4;cases hw:wrP l X.2.2.1 X.2.2.2 with
    | none=>rw [hw] at g4;simp only [Bool.or_false,decide_eq_true_eq] at g4;exact .inl g4
    | some k =>
      rw [hw] at g4;simp only [Bool.or_eq_true,Bool.and_eq_true,decide_eq_true_eq] at g4;rcases g4 with g4 | ⟨g4,g5⟩
      ·exact .inl g4
      ·have hpk:(pf15 l k).2.1.2.1≠e.2.2.1:=fun hh=>by rw [hh] at g5;omega
       exact .inr ⟨_,_,peWr_of l _ _ k hw,hpk,peComm_of l _ g4,g5⟩
   ·cases h7
end Go.Proofs.YthamoeekiglphaaGreatDoor
namespace Go.Proofs.YthamoeekiglphaaGreatDoor
set_option maxRecDepth 100000
set_option linter.unusedVariables false
section
variable (sm:List UInt8→List UInt8) (h32:∀ s,(sm s).length=32)
theorem crownL_len (h32:∀ s,(sm s).length=32) (l:List (List UInt8)) (h:l.length≠0):(crownL sm l).length=32:=by
 unfold crownL;rw [if_neg h];exact h32 _
theorem pathL_32 (h32:∀ s,(sm s).length=32):∀ (n:Nat) (l:List (List UInt8)) (i:Nat),l.length=n→i < l.length→∀ x∈pathL sm l i,x.length=32:=by
 intro n
 induction n using Nat.strongRecOn with
 | _ n ih =>
   intro l i hn hi x hx
   by_cases h1:l.length≤1
   ·rw [pathL_one sm l i h1] at hx;cases hx
   ·have hlt:=hf_lt l.length (by omega)
    have hps:=hf_pos l.length
    by_cases hk:i < hf l.length
    ·rw [pathL_left sm l i (by omega) hk] at hx
     rcases List.mem_append.1 hx with h | h
     ·exact ih (l.take (hf l.length)).length (by simp;omega) _ i rfl (by simp;omega) x h
     ·simp at h;subst h;exact crownL_len sm h32 _ (by first | (rw [List.length_drop];omega) | (rw [List.length_take];omega))
    ·rw [pathL_right sm l i (by omega) hk] at hx
     rcases List.mem_append.1 hx with h | h
     ·exact ih (l.drop (hf l.length)).length (by simp;omega) _ (i - hf l.length) rfl (by simp;omega) x h
     ·simp at h;subst h;exact crownL_len sm h32 _ (by first | (rw [List.length_drop];omega) | (rw [List.length_take];omega))
theorem inL_path:∀ (n:Nat) (l:List (List UInt8)) (i:Nat) (s:List UInt8),l[i]?=some s→l.length=n→∃ L,inL sm l.length i s (pathL sm l i)=some L∧L.getLastD []=topL sm l:=by
 intro n
 induction n using Nat.strongRecOn with
 | _ n ih =>
   intro l i s hs hn;have hi:i < l.length:=(List.getElem?_eq_some_iff.1 hs).1
   by_cases h1:l.length≤1
   ·rw [pathL_one sm l i h1,inL_one sm _ _ _ _ h1]
    match l,hi,h1,hs with
    | [u],hi,_,hs =>
      have h0:i=0:=by simp at hi;exact hi
      subst h0;simp at hs;subst hs;exact ⟨[leafI u],rfl,by rw [topL_one];rfl⟩
   ·have hlt:=hf_lt l.length (by omega)
    have hps:=hf_pos l.length
    by_cases hk:i < hf l.length
    ·have lt1:(l.take (hf l.length)).length=hf l.length:=by rw [List.length_take];omega
     obtain ⟨L,e1,e2⟩:=ih (l.take (hf l.length)).length (by omega) (l.take (hf l.length)) i s (by rw [List.getElem?_take_of_lt hk];exact hs) rfl;rw [lt1] at e1;rw [pathL_left sm l i (by omega) hk,inL_left sm _ _ _ _ (by omega) (by simp) hk,List.dropLast_concat,e1];refine ⟨_,rfl,?_⟩;rw [List.getLastD_concat,List.getLastD_concat,e2,topL_more sm l (by omega)];unfold crownL;rw [if_neg (by rw [List.length_drop];omega)]
    ·have lt1:(l.drop (hf l.length)).length=l.length - hf l.length:=List.length_drop
     obtain ⟨L,e1,e2⟩:=ih (l.drop (hf l.length)).length (by omega) (l.drop (hf l.length)) (i - hf l.length) s (by rw [List.getElem?_drop,show hf l.length+(i - hf l.length)=i by omega];exact hs) rfl;rw [lt1] at e1;rw [pathL_right sm l i (by omega) hk,inL_right sm _ _ _ _ (by omega) (by simp) hk,List.dropLast_concat,e1];refine ⟨_,rfl,?_⟩;rw [List.getLastD_concat,List.getLastD_concat,e2,topL_more sm l (by omega)];unfold crownL;rw [if_neg (by rw [List.length_take];omega)]
theorem check_path (h32:∀ s,(sm s).length=32) (l:List (List UInt8)) (hl:l.length≤4096) (i:Nat) (hi:i < l.length):checkL sm (rootL sm l) l.length i (l[i]'hi) (pathL sm l i)=0:=by
 obtain ⟨L,e1,e2⟩:=inL_path sm l.length l i (l[i]'hi) (List.getElem?_eq_getElem hi) rfl;have hp:=pathL_32 sm h32 l.length l i rfl hi;have hno:¬ ∃ x∈pathL sm l i,x.length≠32:=fun ⟨x,hx,hn⟩=>hn (hp x hx)
 have hc:climbL sm l.length i (l[i]'hi) (pathL sm l i)=(L++[rootI l.length (sm (L.getLastD []))],0):=by
  unfold climbL;rw [if_neg (by omega),if_neg hno];simp only [Int.toNat_natCast,e1]
 unfold checkL;rw [hc];simp only [ne_eq,not_true,if_false,List.getLastD_concat];have hr:rootL sm l=sm (rootI l.length (sm (topL sm l))):=by unfold rootL crownL;rw [if_neg (by omega)]
 rw [e2,hr];simp
theorem unL_some (a b:List UInt8) (h:a≠b) (hs:sm a=sm b):unL sm a b=some (a,b):=by unfold unL;rw [if_pos ⟨h,hs⟩]
theorem unL_honest (a b x y:List UInt8) (h:unL sm a b=some (x,y)):x≠y∧sm x=sm y:=by
 unfold unL at h
 by_cases hc:a≠b∧sm a=sm b
 ·rw [if_pos hc] at h;cases h;exact hc
 ·rw [if_neg hc] at h;cases h
theorem backL_honest (a b:List (List UInt8)) (x y:List UInt8):∀ k,backL sm a b k=some (x,y)→x≠y∧sm x=sm y
 | 0,h=>by cases h
 | k+1,h=>by
   rw [backL] at h
   by_cases hc:a.getD k []≠b.getD k []
   ·rw [if_pos hc] at h;exact unL_honest sm _ _ _ _ h
   ·rw [if_neg hc] at h;exact backL_honest a b x y k h
theorem clashL_honest (n i:Int) (a:List UInt8) (p:List (List UInt8)) (b:List UInt8) (q:List (List UInt8)) (x y:List UInt8) (h:clashL sm n i a p b q=some (x,y)):x≠y∧sm x=sm y:=by
 unfold clashL at h
 by_cases hc:(climbL sm n i a p).2≠0∨(climbL sm n i b q).2≠0
 ·rw [if_pos hc] at h;cases h
 ·rw [if_neg hc] at h;exact backL_honest sm _ _ x y _ h
theorem nodeI_inj {a b c d:List UInt8} (h:a.length=c.length) (e:nodeI a b=nodeI c d):a=c∧b=d:=by
 unfold nodeI at e;exact List.append_inj (List.cons.inj e).2 h
end
end Go.Proofs.YthamoeekiglphaaGreatDoor
namespace Go.Proofs.YthamoeekiglphaaGreatDoor
set_option maxRecDepth 100000
open Go.RowKit
set_option linter.unusedVariables false
theorem rl_16 (x:Int) (w:World):Calls Tryz.prog 148 #[.int .u32 x,.int .i64 (-16)] w fun e w'=>e=.returned (.int .u32 (rot 65536 65536 x))∧w'=w:=by
 have hs:bits .and .u64 (IntKind.u64.wrap (-16)) 31=16:=by decide +kernel
 go_enter Tryz.func148,Tryz.ntmps148
 go_wp2
 go_ret
 exact ⟨ret_int (or_comm32 _ _),rfl⟩
theorem rl_12 (x:Int) (w:World):Calls Tryz.prog 148 #[.int .u32 x,.int .i64 (-12)] w fun e w'=>e=.returned (.int .u32 (rot 4096 1048576 x))∧w'=w:=by
 have hs:bits .and .u64 (IntKind.u64.wrap (-12)) 31=20:=by decide +kernel
 go_enter Tryz.func148,Tryz.ntmps148
 go_wp2
 go_ret
 exact ⟨ret_int (or_comm32 _ _),rfl⟩
theorem rl_8 (x:Int) (w:World):Calls Tryz.prog 148 #[.int .u32 x,.int .i64 (-8)] w fun e w'=>e=.returned (.int .u32 (rot 256 16777216 x))∧w'=w:=by
 have hs:bits .and .u64 (IntKind.u64.wrap (-8)) 31=24:=by decide +kernel
 go_enter Tryz.func148,Tryz.ntmps148
 go_wp2
 go_ret
 exact ⟨ret_int (or_comm32 _ _),rfl⟩
theorem rl_7 (x:Int) (w:World):Calls Tryz.prog 148 #[.int .u32 x,.int .i64 (-7)] w fun e w'=>e=.returned (.int .u32 (rot 128 33554432 x))∧w'=w:=by
 have hs:bits .and .u64 (IntKind.u64.wrap (-7)) 31=25:=by decide +kernel
 go_enter Tryz.func148,Tryz.ntmps148
 go_wp2
 go_ret
 exact ⟨ret_int (or_comm32 _ _),rfl⟩
set_option maxHeartbeats 400000 in
theorem mix_a (a b c d x:Int) (w:World):Calls Tryz.prog 146 #[.int .u32 a,.int .u32 b,.int .u32 c,.int .u32 d,.int .u32 x,.int .i64 16,.int .i64 12] w fun e w'=>e=.returned (.tuple #[.int .u32 (hA a b x),.int .u32 (hB 65536 65536 4096 1048576 a b c d x),.int .u32 (hC 65536 65536 a b c d x),.int .u32 (hD 65536 65536 a b d x)])∧w'=w:=by
 go_enter Tryz.func146,Tryz.ntmps146
 go_wp2_with fail
 refine (rl_16 _ _).mono ?_;rintro e w1 ⟨rfl,rfl⟩;go_wp2_with fail
 refine (rl_12 _ _).mono ?_;rintro e w1 ⟨rfl,rfl⟩;go_wp2_with fail
 rw [add3];exact bodyPost_ret (results_tmp4 rfl _ _ _) rfl ⟨rfl,rfl⟩
set_option maxHeartbeats 400000 in
theorem mix_b (a b c d x:Int) (w:World):Calls Tryz.prog 146 #[.int .u32 a,.int .u32 b,.int .u32 c,.int .u32 d,.int .u32 x,.int .i64 8,.int .i64 7] w fun e w'=>e=.returned (.tuple #[.int .u32 (hA a b x),.int .u32 (hB 256 16777216 128 33554432 a b c d x),.int .u32 (hC 256 16777216 a b c d x),.int .u32 (hD 256 16777216 a b d x)])∧w'=w:=by
 go_enter Tryz.func146,Tryz.ntmps146
 go_wp2_with fail
 refine (rl_8 _ _).mono ?_;rintro e w1 ⟨rfl,rfl⟩;go_wp2_with fail
 refine (rl_7 _ _).mono ?_;rintro e w1 ⟨rfl,rfl⟩;go_wp2_with fail
 rw [add3];exact bodyPost_ret (results_tmp4 rfl _ _ _) rfl ⟨rfl,rfl⟩
theorem and15 (x:Int) (h0:0≤x) (h1:x < 18446744073709551616):bits .and .u64 x 15=x % 16 :=
 bits_mask .u64 64 (by decide) (fun n h h'=>by rw [IntKind.wrap_u64];omega) 4 (by decide) x h0 h1
def fg (o i:Nat):Nat:=o / 2 ^ (60 - 4*i) % 16
theorem figure_0 (o:Nat) (ho:o < 18446744073709551616) (w:World):Calls Tryz.prog 145 #[.int .u64 o,.int .i64 0] w fun e w'=>e=.returned (.int .i64 (fg o 0))∧w'=w:=by
 have hA:bits .and .u64 ((o:Int) / 1152921504606846976) 15=(o:Int) / 1152921504606846976 % 16:=and15 _ (by omega) (by omega);have hw:IntKind.i64.wrap ((o:Int) / 1152921504606846976 % 16)=(o:Int) / 1152921504606846976 % 16:=by rw [IntKind.wrap_i64];omega
 go_enter Tryz.func145,Tryz.ntmps145
 go_wp2
 go_ret
 exact ⟨ret_int (by unfold fg;simp only [Nat.reduceMul,Nat.reduceSub,Nat.reducePow];omega),rfl⟩
theorem figure_1 (o:Nat) (ho:o < 18446744073709551616) (w:World):Calls Tryz.prog 145 #[.int .u64 o,.int .i64 1] w fun e w'=>e=.returned (.int .i64 (fg o 1))∧w'=w:=by
 have hA:bits .and .u64 ((o:Int) / 72057594037927936) 15=(o:Int) / 72057594037927936 % 16:=and15 _ (by omega) (by omega);have hw:IntKind.i64.wrap ((o:Int) / 72057594037927936 % 16)=(o:Int) / 72057594037927936 % 16:=by rw [IntKind.wrap_i64];omega
 go_enter Tryz.func145,Tryz.ntmps145
 go_wp2
 go_ret
 exact ⟨ret_int (by unfold fg;simp only [Nat.reduceMul,Nat.reduceSub,Nat.reducePow];omega),rfl⟩
theorem figure_2 (o:Nat) (ho:o < 18446744073709551616) (w:World):Calls Tryz.prog 145 #[.int .u64 o,.int .i64 2] w fun e w'=>e=.returned (.int .i64 (fg o 2))∧w'=w:=by
 have hA:bits .and .u64 ((o:Int) / 4503599627370496) 15=(o:Int) / 4503599627370496 % 16:=and15 _ (by omega) (by omega);have hw:IntKind.i64.wrap ((o:Int) / 4503599627370496 % 16)=(o:Int) / 4503599627370496 % 16:=by rw [IntKind.wrap_i64];omega
 go_enter Tryz.func145,Tryz.ntmps145
 go_wp2
 go_ret
 exact ⟨ret_int (by unfold fg;simp only [Nat.reduceMul,Nat.reduceSub,Nat.reducePow];omega),rfl⟩
theorem figure_3 (o:Nat) (ho:o < 18446744073709551616) (w:World):Calls Tryz.prog 145 #[.int .u64 o,.int .i64 3] w fun e w'=>e=.returned (.int .i64 (fg o 3))∧w'=w:=by
 have hA:bits .and .u64 ((o:Int) / 281474976710656) 15=(o:Int) / 281474976710656 % 16:=and15 _ (by omega) (by omega);have hw:IntKind.i64.wrap ((o:Int) / 281474976710656 % 16)=(o:Int) / 281474976710656 % 16:=by rw [IntKind.wrap_i64];omega
 go_enter Tryz.func145,Tryz.ntmps145
 go_wp2
 go_ret
 exact ⟨ret_int (by unfold fg;simp only [Nat.reduceMul,Nat.reduceSub,Nat.reducePow];omega),rfl⟩
theorem figure_4 (o:Nat) (ho:o < 18446744073709551616) (w:World):Calls Tryz.prog 145 #[.int .u64 o,.int .i64 4] w fun e w'=>e=.returned (.int .i64 (fg o 4))∧w'=w:=by
 have hA:bits .and .u64 ((o:Int) / 17592186044416) 15=(o:Int) / 17592186044416 % 16:=and15 _ (by omega) (by omega);have hw:IntKind.i64.wrap ((o:Int) / 17592186044416 % 16)=(o:Int) / 17592186044416 % 16:=by rw [IntKind.wrap_i64];omega
 go_enter Tryz.func145,Tryz.ntmps145
 go_wp2
 go_ret
 exact ⟨ret_int (by unfold fg;simp only [Nat.reduceMul,Nat.reduceSub,Nat.reducePow];omega),rfl⟩
theorem figure_5 (o:Nat) (ho:o < 18446744073709551616) (w:World):Calls Tryz.prog 145 #[.int .u64 o,.int .i64 5] w fun e w'=>e=.returned (.int .i64 (fg o 5))∧w'=w:=by
 have hA:bits .and .u64 ((o:Int) / 1099511627776) 15=(o:Int) / 1099511627776 % 16:=and15 _ (by omega) (by omega);have hw:IntKind.i64.wrap ((o:Int) / 1099511627776 % 16)=(o:Int) / 1099511627776 % 16:=by rw [IntKind.wrap_i64];omega
 go_enter Tryz.func145,Tryz.ntmps145
 go_wp2
 go_ret
 exact ⟨ret_int (by unfold fg;simp only [Nat.reduceMul,Nat.reduceSub,Nat.reducePow];omega),rfl⟩
theorem figure_6 (o:Nat) (ho:o < 18446744073709551616) (w:World):Calls Tryz.prog 145 #[.int .u64 o,.int .i64 6] w fun e w'=>e=.returned (.int .i64 (fg o 6))∧w'=w:=by
 have hA:bits .and .u64 ((o:Int) / 68719476736) 15=(o:Int) / 68719476736 % 16:=and15 _ (by omega) (by omega);have hw:IntKind.i64.wrap ((o:Int) / 68719476736 % 16)=(o:Int) / 68719476736 % 16:=by rw [IntKind.wrap_i64];omega
 go_enter Tryz.func145,Tryz.ntmps145
 go_wp2
 go_ret
 exact ⟨ret_int (by unfold fg;simp only [Nat.reduceMul,Nat.reduceSub,Nat.reducePow];omega),rfl⟩
theorem figure_7 (o:Nat) (ho:o < 18446744073709551616) (w:World):Calls Tryz.prog 145 #[.int .u64 o,.int .i64 7] w fun e w'=>e=.returned (.int .i64 (fg o 7))∧w'=w:=by
 have hA:bits .and .u64 ((o:Int) / 4294967296) 15=(o:Int) / 4294967296 % 16:=and15 _ (by omega) (by omega);have hw:IntKind.i64.wrap ((o:Int) / 4294967296 % 16)=(o:Int) / 4294967296 % 16:=by rw [IntKind.wrap_i64];omega
 go_enter Tryz.func145,Tryz.ntmps145
 go_wp2
 go_ret
 exact ⟨ret_int (by unfold fg;simp only [Nat.reduceMul,Nat.reduceSub,Nat.reducePow];omega),rfl⟩
theorem figure_8 (o:Nat) (ho:o < 18446744073709551616) (w:World):Calls Tryz.prog 145 #[.int .u64 o,.int .i64 8] w fun e w'=>e=.returned (.int .i64 (fg o 8))∧w'=w:=by
 have hA:bits .and .u64 ((o:Int) / 268435456) 15=(o:Int) / 268435456 % 16:=and15 _ (by omega) (by omega);have hw:IntKind.i64.wrap ((o:Int) / 268435456 % 16)=(o:Int) / 268435456 % 16:=by rw [IntKind.wrap_i64];omega
 go_enter Tryz.func145,Tryz.ntmps145
 go_wp2
 go_ret
 exact ⟨ret_int (by unfold fg;simp only [Nat.reduceMul,Nat.reduceSub,Nat.reducePow];omega),rfl⟩
theorem figure_9 (o:Nat) (ho:o < 18446744073709551616) (w:World):Calls Tryz.prog 145 #[.int .u64 o,.int .i64 9] w fun e w'=>e=.returned (.int .i64 (fg o 9))∧w'=w:=by
 have hA:bits .and .u64 ((o:Int) / 16777216) 15=(o:Int) / 16777216 % 16:=and15 _ (by omega) (by omega);have hw:IntKind.i64.wrap ((o:Int) / 16777216 % 16)=(o:Int) / 16777216 % 16:=by rw [IntKind.wrap_i64];omega
 go_enter Tryz.func145,Tryz.ntmps145
 go_wp2
 go_ret
 exact ⟨ret_int (by unfold fg;simp only [Nat.reduceMul,Nat.reduceSub,Nat.reducePow];omega),rfl⟩
theorem figure_10 (o:Nat) (ho:o < 18446744073709551616) (w:World):Calls Tryz.prog 145 #[.int .u64 o,.int .i64 10] w fun e w'=>e=.returned (.int .i64 (fg o 10))∧w'=w:=by
 have hA:bits .and .u64 ((o:Int) / 1048576) 15=(o:Int) / 1048576 % 16:=and15 _ (by omega) (by omega);have hw:IntKind.i64.wrap ((o:Int) / 1048576 % 16)=(o:Int) / 1048576 % 16:=by rw [IntKind.wrap_i64];omega
 go_enter Tryz.func145,Tryz.ntmps145
 go_wp2
 go_ret
 exact ⟨ret_int (by unfold fg;simp only [Nat.reduceMul,Nat.reduceSub,Nat.reducePow];omega),rfl⟩
theorem figure_11 (o:Nat) (ho:o < 18446744073709551616) (w:World):Calls Tryz.prog 145 #[.int .u64 o,.int .i64 11] w fun e w'=>e=.returned (.int .i64 (fg o 11))∧w'=w:=by
 have hA:bits .and .u64 ((o:Int) / 65536) 15=(o:Int) / 65536 % 16:=and15 _ (by omega) (by omega);have hw:IntKind.i64.wrap ((o:Int) / 65536 % 16)=(o:Int) / 65536 % 16:=by rw [IntKind.wrap_i64];omega
 go_enter Tryz.func145,Tryz.ntmps145
 go_wp2
 go_ret
 exact ⟨ret_int (by unfold fg;simp only [Nat.reduceMul,Nat.reduceSub,Nat.reducePow];omega),rfl⟩
theorem figure_12 (o:Nat) (ho:o < 18446744073709551616) (w:World):Calls Tryz.prog 145 #[.int .u64 o,.int .i64 12] w fun e w'=>e=.returned (.int .i64 (fg o 12))∧w'=w:=by
 have hA:bits .and .u64 ((o:Int) / 4096) 15=(o:Int) / 4096 % 16:=and15 _ (by omega) (by omega);have hw:IntKind.i64.wrap ((o:Int) / 4096 % 16)=(o:Int) / 4096 % 16:=by rw [IntKind.wrap_i64];omega
 go_enter Tryz.func145,Tryz.ntmps145
 go_wp2
 go_ret
 exact ⟨ret_int (by unfold fg;simp only [Nat.reduceMul,Nat.reduceSub,Nat.reducePow];omega),rfl⟩
theorem figure_13 (o:Nat) (ho:o < 18446744073709551616) (w:World):Calls Tryz.prog 145 #[.int .u64 o,.int .i64 13] w fun e w'=>e=.returned (.int .i64 (fg o 13))∧w'=w:=by
 have hA:bits .and .u64 ((o:Int) / 256) 15=(o:Int) / 256 % 16:=and15 _ (by omega) (by omega);have hw:IntKind.i64.wrap ((o:Int) / 256 % 16)=(o:Int) / 256 % 16:=by rw [IntKind.wrap_i64];omega
 go_enter Tryz.func145,Tryz.ntmps145
 go_wp2
 go_ret
 exact ⟨ret_int (by unfold fg;simp only [Nat.reduceMul,Nat.reduceSub,Nat.reducePow];omega),rfl⟩
theorem figure_14 (o:Nat) (ho:o < 18446744073709551616) (w:World):Calls Tryz.prog 145 #[.int .u64 o,.int .i64 14] w fun e w'=>e=.returned (.int .i64 (fg o 14))∧w'=w:=by
 have hA:bits .and .u64 ((o:Int) / 16) 15=(o:Int) / 16 % 16:=and15 _ (by omega) (by omega);have hw:IntKind.i64.wrap ((o:Int) / 16 % 16)=(o:Int) / 16 % 16:=by rw [IntKind.wrap_i64];omega
 go_enter Tryz.func145,Tryz.ntmps145
 go_wp2
 go_ret
 exact ⟨ret_int (by unfold fg;simp only [Nat.reduceMul,Nat.reduceSub,Nat.reducePow];omega),rfl⟩
theorem figure_15 (o:Nat) (ho:o < 18446744073709551616) (w:World):Calls Tryz.prog 145 #[.int .u64 o,.int .i64 15] w fun e w'=>e=.returned (.int .i64 (fg o 15))∧w'=w:=by
 have hA:bits .and .u64 ((o:Int)) 15=(o:Int) % 16:=and15 _ (by omega) (by omega);have hw:IntKind.i64.wrap ((o:Int) % 16)=(o:Int) % 16:=by rw [IntKind.wrap_i64];omega
 go_enter Tryz.func145,Tryz.ntmps145
 go_wp2
 go_ret
 exact ⟨ret_int (by unfold fg;simp only [Nat.reduceMul,Nat.reduceSub,Nat.reducePow];omega),rfl⟩
theorem figure_of (o i:Nat) (ho:o < 18446744073709551616) (hi:i < 16) (w:World):Calls Tryz.prog 145 #[.int .u64 o,.int .i64 i] w fun e w'=>e=.returned (.int .i64 (fg o i))∧w'=w:=by
 have hc:i=0∨i=1∨i=2∨i=3∨i=4∨i=5∨i=6∨i=7∨i=8∨i=9∨i=10∨i=11∨i=12∨i=13∨i=14∨i=15:=by omega
 rcases hc with rfl | rfl | rfl | rfl | rfl | rfl | rfl | rfl | rfl | rfl | rfl | rfl | rfl | rfl | rfl | rfl
 ·exact figure_0 o ho w
 ·exact figure_1 o ho w
 ·exact figure_2 o ho w
 ·exact figure_3 o ho w
 ·exact figure_4 o ho w
 ·exact figure_5 o ho w
 ·exact figure_6 o ho w
 ·exact figure_7 o ho w
 ·exact figure_8 o ho w
 ·exact figure_9 o ho w
 ·exact figure_10 o ho w
 ·exact figure_11 o ho w
 ·exact figure_12 o ho w
 ·exact figure_13 o ho w
 ·exact figure_14 o ho w
 ·exact figure_15 o ho w
def Z8:List Int:=List.replicate 8 0
def Z16:List Int:=List.replicate 16 0
def bt (B:List UInt8) (i:Nat):Nat:=(B.getD i 0).toNat
theorem bt_lt (B:List UInt8) (i:Nat):bt B i < 256:=(B.getD i 0).toNat_lt
theorem bt_eq (B:List UInt8) (i:Nat) (h:i < B.length):B[i].toNat=bt B i:=by simp [bt,h]
def wd (B:List UInt8) (i:Nat):Int:=((bt B (4*i)+256*bt B (4*i+1)+65536*bt B (4*i+2)+16777216*bt B (4*i+3):Nat):Int)
def mp (B:List UInt8) (k:Nat):List Int:=(List.range 16).map fun i=>if i < k then wd B i else 0
theorem mp_len (B:List UInt8) (k:Nat):(mp B k).length=16:=by simp [mp]
theorem mp_set (B:List UInt8) (k:Nat):(mp B k).set k (wd B k)=mp B (k+1):=by
 apply List.ext_getElem
 ·simp [mp]
 ·intro i h1 h2
  simp only [List.getElem_set,mp,List.getElem_map,List.getElem_range]
  by_cases h:k=i
  ·subst h;simp
  ·rw [if_neg h]
   by_cases h3:i < k
   ·rw [if_pos h3,if_pos (by omega)]
   ·rw [if_neg h3,if_neg (by omega)]
def wdc (B:List UInt8) (q:Nat):Nat→Int
 | 0=>0
 | 1=>(bt B (4*q):Nat)
 | 2=>(bt B (4*q)+256*bt B (4*q+1):Nat)
 | _=>(bt B (4*q)+256*bt B (4*q+1)+65536*bt B (4*q+2):Nat)
def mq (B:List UInt8) (q c:Nat):List Int:=(mp B q).set q (wdc B q c)
theorem mq_len (B:List UInt8) (q c:Nat):(mq B q c).length=16:=by simp [mq,mp_len]
theorem mq_at (B:List UInt8) (q c:Nat) (h:q < 16):at_ (mq B q c) q=wdc B q c:=at_set_same _ _ _ (by rw [mp_len];exact h)
theorem mq_set (B:List UInt8) (q c:Nat) (x:Int):(mq B q c).set q x=(mp B q).set q x:=by simp [mq]
theorem mq_zero (B:List UInt8) (q:Nat):mq B q 0=mp B q:=by
 apply List.ext_getElem
 ·simp [mq]
 ·intro i h1 h2
  simp only [mq,List.getElem_set]
  by_cases h:q=i
  ·subst h;simp [mp,wdc]
  ·rw [if_neg h]
theorem or_part (i:Nat) (hi:i≤24) (x y:Nat) (hx:x < 2 ^ i) (hy:y < 256):bits .or .u32 (x:Int) ((y*2 ^ i:Nat):Int)=((x+y*2 ^ i:Nat):Int):=by
 have hp:(2:Nat) ^ i≤2 ^ 24:=Nat.pow_le_pow_right (by decide) hi;have hp0:0 < (2:Nat) ^ i:=Nat.two_pow_pos i
 have hym:y*2 ^ i < 4294967296:=by
  have:y*2 ^ i≤255*2 ^ 24:=Nat.mul_le_mul (by omega) hp;omega
 rw [u32_or_nat _ _ (by omega) hym];have h:=Nat.two_pow_add_eq_or_of_lt hx y;rw [Nat.or_comm,Nat.mul_comm y,← h];omega
theorem wdc_step (B:List UInt8) (q:Nat):bits .or .u32 (wdc B q 0) ((bt B (4*q):Nat):Int)=wdc B q 1∧bits .or .u32 (wdc B q 1) (((bt B (4*q+1):Nat):Int)*256)=wdc B q 2∧bits .or .u32 (wdc B q 2) (((bt B (4*q+2):Nat):Int)*65536)=wdc B q 3∧bits .or .u32 (wdc B q 3) (((bt B (4*q+3):Nat):Int)*16777216)=wd B q:=by
 have h0:=bt_lt B (4*q);have h1:=bt_lt B (4*q+1);have h2:=bt_lt B (4*q+2);have h3:=bt_lt B (4*q+3);refine ⟨?_,?_,?_,?_⟩
 ·have:=or_part 0 (by decide) 0 (bt B (4*q)) (by decide) h0
  simpa [wdc] using this
 ·have:=or_part 8 (by decide) (bt B (4*q)) (bt B (4*q+1)) (by omega) h1
  show bits .or .u32 ((bt B (4*q):Nat):Int) _=((bt B (4*q)+256*bt B (4*q+1):Nat):Int);rw [show ((bt B (4*q+1):Nat):Int)*256=((bt B (4*q+1)*2 ^ 8:Nat):Int) by omega,this];omega
 ·have:=or_part 16 (by decide) (bt B (4*q)+256*bt B (4*q+1)) (bt B (4*q+2)) (by omega) h2
  show bits .or .u32 ((bt B (4*q)+256*bt B (4*q+1):Nat):Int) _=((bt B (4*q)+256*bt B (4*q+1)+65536*bt B (4*q+2):Nat):Int);rw [show ((bt B (4*q+2):Nat):Int)*65536=((bt B (4*q+2)*2 ^ 16:Nat):Int) by omega,this];omega
 ·have:=or_part 24 (by decide) (bt B (4*q)+256*bt B (4*q+1)+65536*bt B (4*q+2)) (bt B (4*q+3)) (by omega) h3
  show bits .or .u32 ((bt B (4*q)+256*bt B (4*q+1)+65536*bt B (4*q+2):Nat):Int) _=((bt B (4*q)+256*bt B (4*q+1)+65536*bt B (4*q+2)+16777216*bt B (4*q+3):Nat):Int);rw [show ((bt B (4*q+3):Nat):Int)*16777216=((bt B (4*q+3)*2 ^ 24:Nat):Int) by omega,this];omega
def sp (H:List Int) (k:Nat):List Int:=(List.range 16).map fun i=>if i < 8 then (if i < k then at_ H i else 0) else (if i - 8 < k then at_ firstL (i - 8) else 0)
theorem sp_len (H:List Int) (k:Nat):(sp H k).length=16:=by simp [sp]
theorem sp_set (H:List Int) (k:Nat) (hk:k < 8):((sp H k).set k (at_ H k)).set (k+8) (at_ firstL k)=sp H (k+1):=by
 apply List.ext_getElem
 ·simp [sp]
 ·intro i h1 h2
  simp only [List.getElem_set,sp,List.getElem_map,List.getElem_range]
  by_cases h8:k+8=i
  ·subst h8
   rw [if_pos rfl,if_neg (by omega),if_pos (by omega),Nat.add_sub_cancel]
  ·rw [if_neg h8]
   by_cases h:k=i
   ·subst h
    rw [if_pos rfl,if_pos hk,if_pos (by omega)]
   ·rw [if_neg h]
    by_cases hi:i < 8
    ·rw [if_pos hi,if_pos hi]
     by_cases h3:i < k
     ·rw [if_pos h3,if_pos (by omega)]
     ·rw [if_neg h3,if_neg (by omega)]
    ·rw [if_neg hi,if_neg hi]
     by_cases h3:i - 8 < k
     ·rw [if_pos h3,if_pos (by omega)]
     ·rw [if_neg h3,if_neg (by omega)]
def spreadL (H:List Int) (t:Nat) (last:Bool):List Int :=
 let V:=((sp H 8).set 12 (bits .xor .u32 (at_ (sp H 8) 12) ((t:Int) % 4294967296))).set 13 (bits .xor .u32 (at_ (sp H 8) 13) ((t:Int) / 4294967296))
 if last then V.set 14 (bits .xor .u32 (at_ (sp H 8) 14) 4294967295) else V
theorem spreadL_len (H:List Int) (t:Nat) (last:Bool):(spreadL H t last).length=16:=by
 unfold spreadL;cases last<;>simp [sp_len]
attribute [local go_sem] ba_size ba_get ba_extract ba_append wrap_byte wrap_u64_byte take_drop_end wrap_u32_byte wv_get wv_getE wv_set wv_size
set_option maxHeartbeats 1000000 in
theorem words_any (B:List UInt8) (hB:B.length=64) (w:World) :
 Calls Tryz.prog 142 #[.string ⟨B.toArray⟩] w fun e w'=>e=.returned (.agg (wv (mp B 16)))∧Below w.heap.size w w':=by
 go_enter Tryz.func142,Tryz.ntmps142
 go_wp2
 go_loopw [7] (fun i wr=>∃ q c:Nat,q≤16∧c < 4∧(q=16→c=0)∧i=.int .i64 ((4*q+c:Nat):Int)∧Hid (Row wr w.heap.size 162 Z16)∧Hid (Row wr (w.heap.size+1) 162 (mq B q c))∧Hid (wr.heap.size=w.heap.size+2)∧Below w.heap.size w wr) (fun i _=>64 - (RowKit.intOf i).toNat)
 case atStart =>
  refine ⟨0,0,by omega,by omega,by omega,rfl,?_,?_,?_,((Below.refl _ _).alloc (Nat.le_refl _) _).alloc (by simp) _⟩
  ·exact heap_alloc2_old w _ _
  ·exact heap_alloc2_new w _ _
  ·show _=_
   simp
 case round =>
  obtain ⟨q,c,hq,hc,hqc,rfl,HR1,HR2,HS,hbw⟩:=hrel
  by_cases hlt:q < 16
  ·have hl:=mq_len B q c
   have c3:wr.cell? ⟨w.heap.size+1,q,none⟩=some (.int .u32 (wdc B q c)):=by rw [HR2.out.cell q (by omega),at_eq,mq_at B q c hlt]
   have f3:=HR2.out.frozen q;have hcc:c=0∨c=1∨c=2∨c=3:=by omega
   have wq:IntKind.i64.wrap (q:Int)=q:=by rw [IntKind.wrap_i64];omega
   have iq:(q:Int) < 16:=by omega
   rcases hcc with rfl | rfl | rfl | rfl
   ·have hk:4*(q:Int) < 64:=by omega
    have hp:(0:Int)≤4*(q:Int):=by omega
    have tq:(4*(q:Int)).tdiv 4=q:=by rw [Int.tdiv_eq_ediv_of_nonneg hp];omega
    have tm:(4*(q:Int)).tmod 4=0:=by rw [Int.tmod_eq_emod_of_nonneg hp];omega
    have w8:IntKind.i64.wrap 0=0∧IntKind.i64.wrap 8=8∧IntKind.i64.wrap 16=16∧IntKind.i64.wrap 24=24:=by decide +kernel
    obtain ⟨w80,w81,w82,w83⟩:=w8;have tn:(4*(q:Int)).toNat=4*q:=by omega
    have b0:=B[4*q].toNat_lt;have s0:IntKind.u32.wrap ((B[4*q].toNat:Int)*1)=(B[4*q].toNat:Int)*1:=by rw [IntKind.wrap_u32'];omega
    go_wp2
    refine region_tail 14 (by kernel_rfl) (by kernel_rfl) ?_;simp only [List.take_succ_cons,List.take_zero,List.drop_succ_cons,List.drop_zero]
    repeat still_step
    refine wpStill_nil ?_;go_wp2
    go_roundw
    case rel =>
     have hv:bits .or .u32 (wdc B q 0) (B[4*q].toNat:Int)=wdc B q 1:=by rw [bt_eq B _ (by omega)];exact (wdc_step B q).1
     rw [hv];refine ⟨q,1,by omega,by omega,by omega,by go_num,(HR1.out.other _ _ _ (by omega)).drew,?_,?_,(hbw.setCell (by simp) _).drew⟩
     ·show Row _ _ _ ((mp B q).set q (wdc B q 1))
      rw [← mq_set B q 0];exact (HR2.out.set q _).drew
     ·have:=HS.out
      show _=_;simpa using this
    case measure=>simp [RowKit.intOf];omega
   ·have hk:4*(q:Int)+1 < 64:=by omega
    have hp:(0:Int)≤4*(q:Int)+1:=by omega
    have tq:(4*(q:Int)+1).tdiv 4=q:=by rw [Int.tdiv_eq_ediv_of_nonneg hp];omega
    have tm:(4*(q:Int)+1).tmod 4=1:=by rw [Int.tmod_eq_emod_of_nonneg hp];omega
    have w8:IntKind.i64.wrap 0=0∧IntKind.i64.wrap 8=8∧IntKind.i64.wrap 16=16∧IntKind.i64.wrap 24=24:=by decide +kernel
    obtain ⟨w80,w81,w82,w83⟩:=w8;have tn:(4*(q:Int)+1).toNat=4*q+1:=by omega
    have b0:=B[4*q+1].toNat_lt;have s0:IntKind.u32.wrap ((B[4*q+1].toNat:Int)*256)=(B[4*q+1].toNat:Int)*256:=by rw [IntKind.wrap_u32'];omega
    go_wp2
    refine region_tail 14 (by kernel_rfl) (by kernel_rfl) ?_;simp only [List.take_succ_cons,List.take_zero,List.drop_succ_cons,List.drop_zero]
    repeat still_step
    refine wpStill_nil ?_;go_wp2
    go_roundw
    case rel =>
     have hv:bits .or .u32 (wdc B q 1) ((B[4*q+1].toNat:Int)*256)=wdc B q 2:=by rw [bt_eq B _ (by omega)];exact (wdc_step B q).2.1
     rw [hv];refine ⟨q,2,by omega,by omega,by omega,by go_num,(HR1.out.other _ _ _ (by omega)).drew,?_,?_,(hbw.setCell (by simp) _).drew⟩
     ·show Row _ _ _ ((mp B q).set q (wdc B q 2))
      rw [← mq_set B q 1];exact (HR2.out.set q _).drew
     ·have:=HS.out
      show _=_;simpa using this
    case measure=>simp [RowKit.intOf];omega
   ·have hk:4*(q:Int)+2 < 64:=by omega
    have hp:(0:Int)≤4*(q:Int)+2:=by omega
    have tq:(4*(q:Int)+2).tdiv 4=q:=by rw [Int.tdiv_eq_ediv_of_nonneg hp];omega
    have tm:(4*(q:Int)+2).tmod 4=2:=by rw [Int.tmod_eq_emod_of_nonneg hp];omega
    have w8:IntKind.i64.wrap 0=0∧IntKind.i64.wrap 8=8∧IntKind.i64.wrap 16=16∧IntKind.i64.wrap 24=24:=by decide +kernel
    obtain ⟨w80,w81,w82,w83⟩:=w8;have tn:(4*(q:Int)+2).toNat=4*q+2:=by omega
    have b0:=B[4*q+2].toNat_lt;have s0:IntKind.u32.wrap ((B[4*q+2].toNat:Int)*65536)=(B[4*q+2].toNat:Int)*65536:=by rw [IntKind.wrap_u32'];omega
    go_wp2
    refine region_tail 14 (by kernel_rfl) (by kernel_rfl) ?_;simp only [List.take_succ_cons,List.take_zero,List.drop_succ_cons,List.drop_zero]
    repeat still_step
    refine wpStill_nil ?_;go_wp2
    go_roundw
    case rel =>
     have hv:bits .or .u32 (wdc B q 2) ((B[4*q+2].toNat:Int)*65536)=wdc B q 3:=by rw [bt_eq B _ (by omega)];exact (wdc_step B q).2.2.1
     rw [hv];refine ⟨q,3,by omega,by omega,by omega,by go_num,(HR1.out.other _ _ _ (by omega)).drew,?_,?_,(hbw.setCell (by simp) _).drew⟩
     ·show Row _ _ _ ((mp B q).set q (wdc B q 3))
      rw [← mq_set B q 2];exact (HR2.out.set q _).drew
     ·have:=HS.out
      show _=_;simpa using this
    case measure=>simp [RowKit.intOf];omega
   ·have hk:4*(q:Int)+3 < 64:=by omega
    have hp:(0:Int)≤4*(q:Int)+3:=by omega
    have tq:(4*(q:Int)+3).tdiv 4=q:=by rw [Int.tdiv_eq_ediv_of_nonneg hp];omega
    have tm:(4*(q:Int)+3).tmod 4=3:=by rw [Int.tmod_eq_emod_of_nonneg hp];omega
    have w8:IntKind.i64.wrap 0=0∧IntKind.i64.wrap 8=8∧IntKind.i64.wrap 16=16∧IntKind.i64.wrap 24=24:=by decide +kernel
    obtain ⟨w80,w81,w82,w83⟩:=w8;have tn:(4*(q:Int)+3).toNat=4*q+3:=by omega
    have b0:=B[4*q+3].toNat_lt;have s0:IntKind.u32.wrap ((B[4*q+3].toNat:Int)*16777216)=(B[4*q+3].toNat:Int)*16777216:=by rw [IntKind.wrap_u32'];omega
    go_wp2
    refine region_tail 14 (by kernel_rfl) (by kernel_rfl) ?_;simp only [List.take_succ_cons,List.take_zero,List.drop_succ_cons,List.drop_zero]
    repeat still_step
    refine wpStill_nil ?_;go_wp2
    go_roundw
    case rel =>
     have hv:bits .or .u32 (wdc B q 3) ((B[4*q+3].toNat:Int)*16777216)=wd B q:=by rw [bt_eq B _ (by omega)];exact (wdc_step B q).2.2.2
     rw [hv];refine ⟨q+1,0,by omega,by omega,by omega,by go_num,(HR1.out.other _ _ _ (by omega)).drew,?_,?_,(hbw.setCell (by simp) _).drew⟩
     ·rw [mq_zero,← mp_set,← mq_set B q 3]
      exact (HR2.out.set q _).drew
     ·have:=HS.out
      show _=_;simpa using this
    case measure=>simp [RowKit.intOf];omega
  ·obtain rfl:q=16:=by omega
   obtain rfl:c=0:=hqc rfl;rw [mq_zero] at HR2;have hsz:(Tryz.prog.info? 162).map (·.size)=some 16:=by kernel_rfl
   have r1:wr.heap[w.heap.size]?=some (.cells (wv Z16) 162 (0,0)):=HR1.out;have r2:wr.heap[w.heap.size+1]?=some (.cells (wv (mp B 16)) 162 (0,0)):=HR2.out;go_wp2_with (first | (refine wpList_load_row rfl 162 _ rfl (w.heap.size+1) rfl 162 (wv (mp B 16)) (0,0) _ ?hg Tryz.underlying162 rfl ?hi ?_) | (refine wpList_store_row rfl 162 _ _ rfl w.heap.size (wv (mp B 16)) rfl rfl 162 (wv Z16) ?hg2 ?hi2 ?ho2 ?h12 ?_))
   case hi=>simp [mp_len]
   case hi2=>simp [mp_len]
   case ho2=>simp [mp_len,Z16]
   case h12=>exact wv_one _
   refine bodyPost_ret (v:=.agg (wv (mp B 16))) (results_cell_row Tryz.results142 _ _ w.heap.size 162 (wv (mp B 16)) (0,0) _ rfl ?_ Tryz.underlying162 rfl ?_) rfl ⟨rfl,?_⟩
   ·exact setRow_heap _ _ _ _ _ _ r1
   ·rw [hsz,wv_size,mp_len]
   ·exact below_setRow hbw (Nat.le_refl _) _
end Go.Proofs.YthamoeekiglphaaGreatDoor
namespace Go.Proofs.YthamoeekiglphaaGreatDoor
set_option maxRecDepth 100000
open Go.RowKit
set_option linter.unusedVariables false
attribute [local go_sem] wv_get wv_getE wv_set wv_size
set_option maxRecDepth 100000 in
set_option maxHeartbeats 1000000 in
theorem spread_any (H:List Int) (hH:H.length=8) (t:Nat) (ht:t < 18446744073709551616) (last:Bool) (w:World) (hG:G w) :
 Calls Tryz.prog 143 #[.agg (wv H),.int .u64 t,.bool last] w fun e w'=>e=.returned (.agg (wv (spreadL H t last)))∧Below w.heap.size w w':=by
 have hHs:(wv H).size=8:=by rw [wv_size,hH]
 go_enter Tryz.func143,Tryz.ntmps143
 go_wp2
 go_loopw [9] (fun i wr=>∃ k:Nat,k≤8∧i=.int .i64 k∧Hid (Row wr w.heap.size 99 H)∧Hid (Row wr (w.heap.size+1) 162 Z16)∧Hid (Row wr (w.heap.size+1+1) 162 (sp H k))∧Hid (wr.heap.size=w.heap.size+3)∧Below w.heap.size w wr) (fun i _=>8 - (RowKit.intOf i).toNat)
 case atStart =>
  refine ⟨0,by omega,rfl,?_,?_,?_,?_,(((Below.refl _ _).alloc (Nat.le_refl _) _).alloc (by simp) _).alloc (by simp;omega) _⟩
  ·exact ((Row.new w H 99).alloc _).alloc _
  ·exact (heap_alloc_old _ _ (by simp)).trans (heap_alloc2_new w _ _)
  ·have h:=heap_alloc_new ((w.alloc (.cells (wv H) 99)).alloc (.cells (wv Z16) 162)) (.cells (wv (sp H 0)) 162)
   simp only [World.size_alloc] at h;exact h
  ·show _=_
   simp
 case round =>
  obtain ⟨k,hk,rfl,HR1,HR2,HR3,HS,hbw⟩:=hrel
  by_cases hlt:k < 8
  ·have i0:(k:Int) < 8:=by omega
   have hGr:G wr:=hG.below hbw hG.size;have c0:=hGr.first k hlt;have c1:wr.cell? ⟨w.heap.size,k,none⟩=some (.int .u32 (at_ H k)):=by rw [HR1.out.cell k (by omega),at_eq]
   have hl3:=sp_len H k;have c3:wr.cell? ⟨w.heap.size+1+1,k,none⟩=some (.int .u32 (at_ (sp H k) k)):=by rw [HR3.out.cell k (by omega),at_eq]
   have f3:=HR3.out.frozen k;have c4:wr.cell? ⟨w.heap.size+1+1,k+8,none⟩=some (.int .u32 (at_ (sp H k) (k+8))):=by rw [HR3.out.cell (k+8) (by omega),at_eq]
   have f4:=HR3.out.frozen (k+8);go_wp2
   go_roundw
   case rel =>
    refine ⟨k+1,by omega,by go_num,(HR1.out.other _ _ _ (by omega)).other _ _ _ (by omega),(HR2.out.other _ _ _ (by omega)).other _ _ _ (by omega),?_,?_,(hbw.setCell (by simp;omega) _).setCell (by simp;omega) _⟩
    ·rw [← sp_set H k hlt]
     exact (HR3.out.set k _).set (k+8) _
    ·have:=HS.out
     show _=_;simpa using this
   case measure=>simp [RowKit.intOf];omega
  ·obtain rfl:k=8:=by omega
   have hl3:=sp_len H 8;have c12:wr.cell? ⟨w.heap.size+1+1,12,none⟩=some (.int .u32 (at_ (sp H 8) 12)):=by rw [HR3.out.cell 12 (by omega),at_eq]
   have c13:wr.cell? ⟨w.heap.size+1+1,13,none⟩=some (.int .u32 (at_ (sp H 8) 13)):=by rw [HR3.out.cell 13 (by omega),at_eq]
   have c14:wr.cell? ⟨w.heap.size+1+1,14,none⟩=some (.int .u32 (at_ (sp H 8) 14)):=by rw [HR3.out.cell 14 (by omega),at_eq]
   have f12:=HR3.out.frozen 12;have f13:=HR3.out.frozen 13;have f14:=HR3.out.frozen 14;have hsz:(Tryz.prog.info? 162).map (·.size)=some 16:=by kernel_rfl
   cases last with
   | true =>
     obtain ⟨X,hX⟩:∃ X,(((sp H 8).set 12 (bits .xor .u32 (at_ (sp H 8) 12) ((t:Int) % 4294967296))).set 13 (bits .xor .u32 (at_ (sp H 8) 13) ((t:Int) / 4294967296))).set 14 (bits .xor .u32 IntKind.u32.max (at_ (sp H 8) 14))=X:=⟨_,rfl⟩;have hlX:X.length=16:=by rw [← hX];simp [sp_len]
     have hXs:spreadL H t true=X:=by
      rw [← hX];unfold spreadL;rw [if_pos rfl,xor_comm32 (at_ (sp H 8) 14)];rfl
     go_wp2_with (first | (refine wpList_load_row rfl 162 _ rfl (w.heap.size+1+1) rfl 162 (wv X) (0,0) _ ?hg Tryz.underlying162 rfl ?hi ?_) | (refine wpList_store_row rfl 162 _ _ rfl (w.heap.size+1) (wv X) rfl rfl 162 (wv Z16) ?hg2 ?hi2 ?ho2 ?h12 ?_))
     case hg=>rw [← hX];exact ((HR3.out.set 12 _).set 13 _).set 14 _
     case hi=>rw [hsz,wv_size,hlX]
     case hg2=>exact ((HR2.out.other _ _ _ (by omega)).other _ _ _ (by omega)).other _ _ _ (by omega)
     case hi2=>rw [hsz,wv_size,hlX]
     case ho2=>rw [wv_size,wv_size,hlX];rfl
     case h12=>exact wv_one _
     refine bodyPost_ret (v:=.agg (wv X)) (results_cell_row Tryz.results143 _ _ (w.heap.size+1) 162 (wv X) (0,0) _ rfl ?_ Tryz.underlying162 rfl ?_) rfl ⟨by first | rfl | rw [hXs],?_⟩
     ·exact setRow_heap _ _ _ _ _ _ (((HR2.out.other _ _ _ (by omega)).other _ _ _ (by omega)).other _ _ _ (by omega))
     ·rw [hsz,wv_size,hlX]
     ·exact below_setRow (((hbw.setCell (by simp;omega) _).setCell (by simp;omega) _).setCell (by simp;omega) _) (by omega) _
   | false =>
     obtain ⟨X,hX⟩:∃ X,((sp H 8).set 12 (bits .xor .u32 (at_ (sp H 8) 12) ((t:Int) % 4294967296))).set 13 (bits .xor .u32 (at_ (sp H 8) 13) ((t:Int) / 4294967296))=X:=⟨_,rfl⟩;have hlX:X.length=16:=by rw [← hX];simp [sp_len]
     have hXs:spreadL H t false=X:=by
      rw [← hX];rfl
     go_wp2_with (first | (refine wpList_load_row rfl 162 _ rfl (w.heap.size+1+1) rfl 162 (wv X) (0,0) _ ?hgF Tryz.underlying162 rfl ?hiF ?_) | (refine wpList_store_row rfl 162 _ _ rfl (w.heap.size+1) (wv X) rfl rfl 162 (wv Z16) ?hg2F ?hi2F ?ho2F ?h12F ?_))
     case hgF=>rw [← hX];exact (HR3.out.set 12 _).set 13 _
     case hiF=>rw [hsz,wv_size,hlX]
     case hg2F=>exact (HR2.out.other _ _ _ (by omega)).other _ _ _ (by omega)
     case hi2F=>rw [hsz,wv_size,hlX]
     case ho2F=>rw [wv_size,wv_size,hlX];rfl
     case h12F=>exact wv_one _
     refine bodyPost_ret (v:=.agg (wv X)) (results_cell_row Tryz.results143 _ _ (w.heap.size+1) 162 (wv X) (0,0) _ rfl ?_ Tryz.underlying162 rfl ?_) rfl ⟨by first | rfl | rw [hXs],?_⟩
     ·exact setRow_heap _ _ _ _ _ _ ((HR2.out.other _ _ _ (by omega)).other _ _ _ (by omega))
     ·rw [hsz,wv_size,hlX]
     ·exact below_setRow ((hbw.setCell (by simp;omega) _).setCell (by simp;omega) _) (by omega) _
end Go.Proofs.YthamoeekiglphaaGreatDoor
namespace Go.Proofs.YthamoeekiglphaaGreatDoor
set_option maxRecDepth 100000
open Go.RowKit
set_option linter.unusedVariables false
def vr (B:List UInt8) (V:List Int):Nat→List Int
 | 0=>V
 | r+1=>rk (mp B 16) (vr B V r) (sg r) 8
theorem vr_len (B:List UInt8) (V:List Int) (h:V.length=16) (r:Nat):(vr B V r).length=16:=by
 induction r with
 | zero=>exact h
 | succ r ih=>exact rk_len _ _ _ ih 8
def hx (H V:List Int) (k:Nat):List Int:=(List.range 8).map fun i=>if i < k then bits .xor .u32 (at_ H i) (bits .xor .u32 (at_ V i) (at_ V (i+8))) else at_ H i
theorem hx_len (H V:List Int) (k:Nat):(hx H V k).length=8:=by simp [hx]
theorem hx_at (H V:List Int) (k:Nat) (h:k < 8):at_ (hx H V k) k=at_ H k:=by
 have e:at_ (hx H V k) k=(hx H V k)[k]'(by rw [hx_len];exact h):=(at_eq _ _ _).symm;rw [e];simp [hx]
theorem hx_zero (H V:List Int) (h:H.length=8):hx H V 0=H:=by
 apply List.ext_getElem
 ·simp [hx,h]
 ·intro i h1 h2
  simp [hx,at_,h2]
theorem hx_set (H V:List Int) (k:Nat) (x:Int) (hx':x=bits .xor .u32 (at_ H k) (bits .xor .u32 (at_ V k) (at_ V (k+8)))):(hx H V k).set k x=hx H V (k+1):=by
 subst hx';apply List.ext_getElem
 ·simp [hx]
 ·intro i h1 h2
  simp only [List.getElem_set,hx,List.getElem_map,List.getElem_range]
  by_cases h:k=i
  ·subst h;simp
  ·rw [if_neg h]
   by_cases h3:i < k
   ·rw [if_pos h3,if_pos (by omega)]
   ·rw [if_neg h3,if_neg (by omega)]
def blockL (H:List Int) (B:List UInt8) (t:Nat) (last:Bool):List Int:=hx H (vr B (spreadL H t last) 10) 8
theorem blockL_len (H:List Int) (B:List UInt8) (t:Nat) (last:Bool):(blockL H B t last).length=8:=hx_len _ _ _
attribute [local go_sem] wv_get wv_getE wv_set wv_size
def startL (k:Int):List Int:=firstL.set 0 (bits .xor .u32 (at_ firstL 0) (bits .xor .u32 16842784 (256*k)))
theorem psize8:(Tryz.prog.info? 99).map (·.size)=some 8:=by kernel_rfl
set_option maxHeartbeats 1000000 in
theorem start_good (k:Int) (h0:0≤k) (h1:k≤32) (w:World) (hG:G w) :
 Calls Tryz.prog 111 #[.int .i64 k] w fun e w'=>e=.returned (.tuple #[.agg (wv (startL k)),.int .i64 0])∧Below w.heap.size w w':=by
 have hg3:=hG.size;obtain ⟨tg,hg⟩:=hG.g0;go_enter Tryz.func111,Tryz.ntmps111
 go_upto_region 4 with (first | (refine wpList_load_row rfl 99 _ rfl 0 rfl tg (wv firstL) (0,0) _ ?hg1 Tryz.underlying99 rfl ?hi1 ?_) | (refine wpList_store_row rfl 99 _ _ rfl (w.heap.size+1) (wv firstL) rfl rfl 99 (wv Z8) ?hg2 ?hi2 ?ho2 ?h12 ?_))
 case hg1=>exact (heap_alloc_old w _ (by omega)).trans hg
 case hi1=>rw [psize8,wv_size];rfl
 case hg2=>exact heap_alloc2_new w _ _
 case hi2=>rw [psize8,wv_size];rfl
 case ho2=>rfl
 case h12=>exact wv_one _
 change Code.wp _ _ _ _ (((w.alloc (.cells (wv Z8) 99)).alloc (.cells (wv Z8) 99)).setRow (w.heap.size+1) (wv firstL));obtain ⟨w2,hw2⟩:∃ w2,((w.alloc (.cells (wv Z8) 99)).alloc (.cells (wv Z8) 99)).setRow (w.heap.size+1) (wv firstL)=w2:=⟨_,rfl⟩;have hL2:Row w2 (w.heap.size+1) 99 firstL:=by rw [← hw2];exact setRow_heap _ _ _ _ _ _ (heap_alloc2_new w _ _)
 have hZ2:Row w2 w.heap.size 99 Z8:=by rw [← hw2];exact Row.setRow_other (V:=Z8) (heap_alloc2_old w _ _) _ _ (by omega)
 have hbw2:Below w.heap.size w w2:=by rw [← hw2];exact below_setRow (((Below.refl _ _).alloc (Nat.le_refl _) _).alloc (by simp) _) (by omega) _
 rw [hw2];clear hw2;have c0:w2.cell? ⟨w.heap.size+1,0,none⟩=some (.int .u32 (at_ firstL 0)):=by rw [hL2.cell 0 (by decide),at_eq]
 have f0:=hL2.frozen 0;have x0:IntKind.i64.wrap (256*k)=256*k:=by rw [IntKind.wrap_i64];omega
 have x1:IntKind.u32.wrap (256*k)=256*k:=by rw [IntKind.wrap_u32'];omega
 obtain ⟨R,hR⟩:∃ R,startL k=R:=⟨_,rfl⟩;have lR:R.length=8:=by rw [← hR];rfl
 go_wp2_with (first | (refine wpList_load_row rfl 99 _ rfl (w.heap.size+1) rfl 99 (wv R) (0,0) _ ?hg3 Tryz.underlying99 rfl ?hi3 ?_) | (refine wpList_store_row rfl 99 _ _ rfl w.heap.size (wv R) rfl rfl 99 (wv Z8) ?hg4 ?hi4 ?ho4 ?h14 ?_))
 case hg3=>rw [← hR];exact hL2.set 0 _
 case hi3=>rw [psize8,wv_size,lR]
 case hg4=>exact hZ2.other _ _ _ (by omega)
 case hi4=>rw [psize8,wv_size,lR]
 case ho4=>rw [wv_size,wv_size,lR];rfl
 case h14=>exact wv_one _
 refine bodyPost_ret (v:=.tuple #[.agg (wv R),.int .i64 0]) (results_row_tmp Tryz.results111 _ _ w.heap.size 99 (wv R) (0,0) _ rfl ?_ Tryz.underlying99 rfl ?_) rfl ⟨by first | rfl | rw [hR],?_⟩
 ·exact setRow_heap _ _ _ _ _ _ (hZ2.other _ _ _ (by omega))
 ·rw [psize8,wv_size,lR]
 ·exact below_setRow (hbw2.setCell (by simp) _) (by omega) _
end Go.Proofs.YthamoeekiglphaaGreatDoor
namespace Go.Proofs.YthamoeekiglphaaGreatDoor
set_option maxRecDepth 100000
open Go.RowKit
theorem strCells_list (l:List UInt8):Lib.strCells ⟨l.toArray⟩=Lib.byteCells l:=by
 simp [Lib.strCells,Lib.byteCells]
theorem byteCells_append (a b:List UInt8):Lib.byteCells a++Lib.byteCells b=Lib.byteCells (a++b):=by
 simp [Lib.byteCells]
set_option linter.unusedVariables false
def bv (l:List UInt8):Array Value:=(Lib.byteCells l).toArray
theorem bv_size (l:List UInt8):(bv l).size=l.length:=by simp [bv,Lib.byteCells]
theorem bv_get (l:List UInt8) (i:Nat) (h:i < l.length):(bv l)[i]?=some (.int .u8 ((l[i]'h).toNat:Int)):=by simp [bv,Lib.byteCells,h]
theorem bv_set (l:List UInt8) (i:Nat) (x:UInt8):(bv l).setIfInBounds i (.int .u8 (x.toNat:Int))=bv (l.set i x):=by simp [bv,Lib.byteCells]
def BRow (w:World) (g:Nat) (t:TypeId) (l:List UInt8):Prop:=w.heap[g]?=some (.cells (bv l) t (0,0))
theorem BRow.cell {w:World} {g:Nat} {t:TypeId} {l:List UInt8} (h:BRow w g t l) (i:Nat) (hi:i < l.length):w.cell? ⟨g,i,none⟩=some (.int .u8 ((l[i]'hi).toNat:Int)):=by
 rw [cell_of_row w g i _ _ _ h,bv_get l i hi]
theorem BRow.frozen {w:World} {g:Nat} {t:TypeId} {l:List UInt8} (h:BRow w g t l) (i:Nat):w.frozen? ⟨g,i,none⟩=false:=frozen_of_row w g i _ _ h
theorem BRow.set {w:World} {g:Nat} {t:TypeId} {l:List UInt8} (h:BRow w g t l) (i:Nat) (x:UInt8):BRow (w.setCell ⟨g,i,none⟩ (.int .u8 (x.toNat:Int))) g t (l.set i x):=by
 have:=heap_setCell_same w g i _ _ (.int .u8 (x.toNat:Int)) h;unfold BRow;rw [this,bv_set]
theorem BRow.string {P:Program} {w:World} {g:Nat} {t:TypeId} {l:List UInt8} (h:BRow w g t l) (src e dst:TypeId) (hs:P.underlying src=some (.slice e)) (he:P.underlying e=some (.int .u8)) (hd:P.underlying dst=some .string) (n cap:Nat) (hn:l.length=n) :
 (convert src dst (.slice (some ⟨g,0,none⟩) n cap)).run P w=.ok (.string ⟨l.toArray⟩) w:=by
 have:=run_convert_bytes_arg (P:=P) w src e hs he g 0 n cap (l.map fun b=>(b.toNat:Int)) (by simpa using hn) (fun i hi=>by
  rw [Nat.zero_add,h.cell i (by omega)];simp [show i < l.length by omega]) dst hd
 rw [this]
 have e:strOfNums (l.map fun b=>(b.toNat:Int))=⟨l.toArray⟩:=by
  apply ByteArray.ext;show ((l.map fun b=>(b.toNat:Int)).map fun n=>UInt8.ofNat n.toNat).toArray=l.toArray;rw [List.map_map]
  congr 1
  refine (List.map_congr_left fun b _=>?_).trans (List.map_id l);show UInt8.ofNat ((b.toNat:Int)).toNat=b;simp
 rw [e]
theorem wpList_copy_str {P:Program} {w:World} {ops:Array Oper} {rest:List Oper} {o:Oper} {a:Act} {Q:Exit→Act→World→Prop} (hgd:o.guard=none) (d x:Operand) (dT sT:TypeId)
 (hop:o.op=Op.call { callee:=Callee.builtin Builtin.copy,args:=#[d,x],argTypes:=#[dT,sT] }) (elem:TypeId) (hu:P.underlying dT=some (.slice elem)) (hs:(P.info? elem).map (·.size)=some 1)
 (g dLen dCap:Nat) (hd:a.eval d=.slice (some ⟨g,0,none⟩) dLen dCap) (l m:List UInt8) (hx:a.eval x=.string ⟨m.toArray⟩) (t:TypeId) (hg:BRow w g t l) (h1:m.length≤dLen) (h2:m.length≤l.length)
 (h:wpList P ops Q rest (a.put o.dst (goInt m.length)) (w.setRow g (bv (m++l.drop m.length)))):wpList P ops Q (o::rest) a w:=by
 have hrun:=Lib.run_copy_row_string (P:=P) w dT sT o.type elem g 0 dLen dCap ⟨m.toArray⟩ (bv l) t hu hs hg (by rw [ba_size];exact h1) (by rw [ba_size,bv_size];omega)
 have e:((bv l).toList.take 0++Lib.byteCells (⟨m.toArray⟩:ByteArray).data.toList++(bv l).toList.drop (0+(⟨m.toArray⟩:ByteArray).size)).toArray=bv (m++l.drop m.length):=by
  rw [ba_size];simp [bv,Lib.byteCells]
 rw [e,ba_size] at hrun;refine wpList_plain hgd fun _ hK=>?_
 unfold Oper.wp;simp [execOp,hop,resolve,invoke,builtin,hd,hx,hrun,Result.andThen];exact hK _ _ h
def padL (l:List UInt8):List UInt8:=l++List.replicate (64 - l.length) 0
theorem padL_len (l:List UInt8) (h:l.length≤64):(padL l).length=64:=by simp [padL];omega
def Z64:List UInt8:=List.replicate 64 0
set_option maxHeartbeats 1000000 in
theorem fill_any (l:List UInt8) (hl:l.length≤64) (w:World) :
 Calls Tryz.prog 135 #[.string ⟨l.toArray⟩] w fun e w'=>e=.returned (.string ⟨(padL l).toArray⟩)∧Below w.heap.size w w':=by
 have hpad:l++Z64.drop l.length=padL l:=by unfold Z64;rw [List.drop_replicate];rfl
 have hb:(Tryz.prog.info? 5).map (·.size)=some 1:=by kernel_rfl
 go_enter Tryz.func135,Tryz.ntmps135
 go_upto_region 3 with (refine wpList_copy_str rfl _ _ 94 9 rfl 5 Tryz.underlying94 hb w.heap.size 64 64 rfl Z64 l rfl 200 (heap_alloc_new w _) hl ?h2 ?_)
 case h2=>exact hl
 change Code.wp _ _ _ _ ((w.alloc (.cells (bv Z64) 200)).setRow w.heap.size (bv (l++Z64.drop l.length)));rw [hpad];obtain ⟨w2,hw2⟩:∃ w2,(w.alloc (.cells (bv Z64) 200)).setRow w.heap.size (bv (padL l))=w2:=⟨_,rfl⟩;have hrow:BRow w2 w.heap.size 200 (padL l):=by rw [← hw2];exact setRow_heap _ _ _ _ _ _ (heap_alloc_new w _)
 have hbw:Below w.heap.size w w2:=by rw [← hw2];exact below_setRow ((Below.refl _ _).alloc (Nat.le_refl _) _) (Nat.le_refl _) _
 have hconv:=hrow.string (P:=Tryz.prog) 94 5 9 (by kernel_rfl) (by kernel_rfl) (by kernel_rfl) 64 64 (padL_len l hl);rw [hw2];clear hw2;go_wp2
 go_ret
 exact ⟨rfl,hbw⟩
attribute [local go_sem] wv_get wv_getE wv_set wv_size
def fl (H:List Int) (k:Nat):List UInt8:=(List.range 32).map fun i=>if i < k then UInt8.ofNat ((at_ H (i / 4) / 2 ^ (8*(i % 4))) % 256).toNat else 0
theorem fl_len (H:List Int) (k:Nat):(fl H k).length=32:=by simp [fl]
theorem fl_set (H:List Int) (k:Nat) (x:UInt8) (hx:x=UInt8.ofNat ((at_ H (k / 4) / 2 ^ (8*(k % 4))) % 256).toNat):(fl H k).set k x=fl H (k+1):=by
 subst hx;apply List.ext_getElem
 ·simp [fl]
 ·intro i h1 h2
  simp only [List.getElem_set,fl,List.getElem_map,List.getElem_range]
  by_cases h:k=i
  ·subst h;simp
  ·rw [if_neg h]
   by_cases h3:i < k
   ·rw [if_pos h3,if_pos (by omega)]
   ·rw [if_neg h3,if_neg (by omega)]
theorem byte_of (x:Int):(Value.int .u8 (x % 256))=.int .u8 ((UInt8.ofNat (x % 256).toNat).toNat:Int):=by
 congr 1
 simp;omega
set_option maxHeartbeats 1000000 in
theorem flat_any (H:List Int) (hH:H.length=8) (w:World) :
 Calls Tryz.prog 136 #[.agg (wv H)] w fun e w'=>e=.returned (.string ⟨(fl H 32).toArray⟩)∧Below w.heap.size w w':=by
 have hHs:(wv H).size=8:=by rw [wv_size,hH]
 go_enter Tryz.func136,Tryz.ntmps136
 go_wp2
 go_loopw [5] (fun i wr=>∃ k:Nat,k≤32∧i=.int .i64 k∧Hid (Row wr w.heap.size 99 H)∧Hid (BRow wr (w.heap.size+1) 201 (fl H k))∧Below w.heap.size w wr) (fun i _=>32 - (RowKit.intOf i).toNat)
 case atStart =>
  refine ⟨0,by omega,rfl,?_,?_,((Below.refl _ _).alloc (Nat.le_refl _) _).alloc (by simp) _⟩
  ·exact heap_alloc2_old w _ _
  ·exact heap_alloc2_new w _ _
 case round =>
  obtain ⟨k,hk,rfl,HR,HB,hbw⟩:=hrel
  by_cases hlt:k < 32
  ·have i0:(k:Int) < 32:=by omega
   have p0:(0:Int)≤k:=by omega
   have lf:=fl_len H k;have q8:k / 4 < 8:=by omega
   have c0:wr.cell? ⟨w.heap.size,k / 4,none⟩=some (.int .u32 (at_ H (k / 4))):=by rw [HR.out.cell _ (by omega),at_eq]
   obtain ⟨y,hy⟩:∃ y,at_ H (k / 4)=y:=⟨_,rfl⟩;rw [hy] at c0;have cB:=HB.out.cell k (by omega);have fB:=HB.out.frozen k;go_wp2
   go_roundw
   case rel =>
    refine ⟨k+1,by omega,by go_num,HR.out.other _ _ _ (by omega),?_,hbw.setCell (by simp) _⟩;rw [byte_of,← fl_set H k _ (by rw [hy])];exact HB.out.set k _
   case measure=>simp [RowKit.intOf];omega
  ·obtain rfl:k=32:=by omega
   have hconv:=HB.out.string (P:=Tryz.prog) 94 5 9 (by kernel_rfl) (by kernel_rfl) (by kernel_rfl) 32 32 (fl_len H 32);go_wp2
   go_ret
   exact ⟨rfl,hbw⟩
end Go.Proofs.YthamoeekiglphaaGreatDoor
namespace Go.Proofs.YthamoeekiglphaaGreatDoor
set_option maxRecDepth 100000
open Go.RowKit
set_option linter.unusedVariables false
def fk (H:List Int) (S:List UInt8):Nat→List Int
 | 0=>H
 | k+1=>blockL (fk H S k) ((S.drop (64*k)).take 64) (64*(k+1)) false
theorem fk_len (H:List Int) (S:List UInt8) (h:H.length=8) (k:Nat):(fk H S k).length=8:=by
 cases k with
 | zero=>exact h
 | succ k=>exact blockL_len _ _ _ _
def nb (S:List UInt8):Nat:=(S.length - 1) / 64
def foldL (H:List Int) (S:List UInt8):List Int:=blockL (fk H S (nb S)) (padL (S.drop (64*nb S))) S.length true
theorem foldL_len (H:List Int) (S:List UInt8):(foldL H S).length=8:=blockL_len _ _ _ _
theorem nb_of (S:List UInt8) (k:Nat) (h1:k=0∨64*k < S.length) (h2:S.length≤64*k+64):nb S=k:=by
 unfold nb;omega
attribute [local go_sem] ba_size
set_option maxHeartbeats 4000000 in
theorem rflat_any (vl:Value) (l:List Stp) (w:World) (hT:IsSts w vl l) (hF:(flatL l).length≤1000000000000) :
 Calls Tryz.prog 99 #[vl] w fun e w'=>EdRow 32 w (flatL l) e w':=by
 obtain ⟨i0,hi,hz0,hz1,hz2⟩:=info_parts ed_info;obtain ⟨a,cap,rfl,h1,h2,h3,HC⟩:=hT.reads;obtain ⟨n,hn⟩:∃ n,l.length=n:=⟨_,rfl⟩;have HN:Hid (l.length=n):=hn;have HF:Hid ((flatL l).length≤1000000000000):=hF;rw [hn] at h1 h3 ⊢;clear hn hT hF;go_enter Tryz.func99,Tryz.ntmps99
 go_wp2_with fail
 go_loopw [3,4] (fun r iv wr=>∃ (k c:Nat),k≤n∧iv=.int .i64 k∧Hid ((flatL (l.take k)).length=c)∧Below w.heap.size w wr∧wr.ownsRow w.heap.size 32 5 r c (recV edV (flatL (l.take k)))) (fun _ iv _=>n - (RowKit.intOf iv).toNat)
 case atStart=>exact ⟨0,0,Nat.zero_le _,rfl,rfl,Below.refl _ _,World.ownsRow_nil _ _ _ _⟩
 case round =>
  obtain ⟨wA,rfl⟩:∃ wA,wA=wr:=⟨_,rfl⟩;obtain ⟨k,c,hk,rfl,HLc,hbw,hrow⟩:=hrel
  by_cases hlt:k < n
  ·have hk1:Hid (k < l.length):=by show k < _;rw [HN.out];exact hlt
   have j0:(k:Int) < (n:Int):=by omega
   have jwk:IntKind.i64.wrap ((k:Int)+1)=(k:Int)+1:=by rw [IntKind.wrap_i64];omega
   obtain ⟨bb,off,rfl,u,hu,HQ⟩:=HC.out k hk1.out;have HQQ:Hid (∀ V,Below w.heap.size w V→V.cell? ⟨bb,off+k*3+2,none⟩=some u):=fun V hV=>(HQ V hV).2.2
   have HNx:Hid (flatL (l.take (k+1))=flatL (l.take k)++(l[k]'hk1.out).2.2):=flat_next l k hk1.out;obtain ⟨E,hE⟩:∃ E,(l[k]'hk1.out).2.2=E:=⟨_,rfl⟩;rw [hE] at hu HNx;clear hE HQ;obtain ⟨ae,ce,rfl,e1,e2,e3,HE⟩:=IsEds.reads hu;obtain ⟨m,hm⟩:∃ m,E.length=m:=⟨_,rfl⟩;have HM:Hid (E.length=m):=hm;rw [hm] at e1 e3 HQQ
   have HB:Hid (c+m≤1000000000000):=by
    have q:=flat_take l (k+1);rw [HNx.out,List.length_append,HLc.out,hm] at q;have:=HF.out;show _≤_;omega
   clear hm hu;have c0:=HQQ.out _ hbw;go_wp2_with fail
   go_loopw [3,5] (fun r iv wr=>∃ (q:Nat),q≤m∧iv=.int .i64 q∧Below w.heap.size w wr∧wr.ownsRow w.heap.size 32 5 r (c+q) (recV edV (flatL (l.take k)++E.take q))) (fun _ iv _=>m - (RowKit.intOf iv).toNat)
   case atStart=>exact ⟨0,Nat.zero_le _,rfl,hbw,by rw [List.take_zero,List.append_nil];exact hrow⟩
   case round =>
    obtain ⟨q,hq,rfl,hbq,hrq⟩:=hrel;have c1:=HQQ.out _ hbq
    by_cases hlq:q < m
    ·have j1:(q:Int) < (m:Int):=by omega
     have jwq:IntKind.i64.wrap ((q:Int)+1)=(q:Int)+1:=by rw [IntKind.wrap_i64];omega
     have hq1:q < E.length:=by have:=HM.out;omega
     obtain ⟨be,oe,rfl,HEE⟩:=HE.out (by omega);obtain ⟨x0,x1,x2,x3,x4⟩:=HEE.out q hq1 _ hbq;have HY:Hid (E.take (q+1)=E.take q++[E[q]]):=List.take_succ_eq_append_getElem hq1;obtain ⟨⟨e0,e1',e2',e3',e4⟩,hx⟩:∃ x,E[q]=x:=⟨_,rfl⟩;rw [hx] at x0 x1 x2 x3 x4 HY;simp only at x0 x1 x2 x3 x4;clear hx;have hbb:=HB.out;have hal:=hrq.alloc (.cells #[.int .i64 e0,.int .i64 e1',.int .i64 e2',.int .i64 e3',.int .i64 e4] 32);go_wp2_with (at_builtin;refine wpList_append_own_at _ rfl _ _ 25 rfl w.heap.size 32 i0 (.agg #[.int .i64 0,.int .i64 0,.int .i64 0,.int .i64 0,.int .i64 0]) 5 40 Tryz.underlying25 hi hz0 hz1 hz2 rfl (by decide) _ _ _ rfl hal ⟨wr.heap.size,0,none⟩ 1 1 [.int .i64 e0,.int .i64 e1',.int .i64 e2',.int .i64 e3',.int .i64 e4] rfl rfl ?a1 ?a2 ?a3 ?a4 ?a5 ?_)
     case a1=>intro j u hj;match j,hj with
      | 0,hj=>simp at hj;subst hj;first | (simp [Addr.add];done) | exact cell_new7 (by simp) rfl
      | 1,hj=>simp at hj;subst hj;first | (simp [Addr.add];done) | exact cell_new7 (by simp) rfl
      | 2,hj=>simp at hj;subst hj;first | (simp [Addr.add];done) | exact cell_new7 (by simp) rfl
      | 3,hj=>simp at hj;subst hj;first | (simp [Addr.add];done) | exact cell_new7 (by simp) rfl
      | 4,hj=>simp at hj;subst hj;first | (simp [Addr.add];done) | exact cell_new7 (by simp) rfl
     case a2=>intro u hu;simp at hu;rcases hu with rfl | rfl | rfl | rfl | rfl<;>rfl
     case a3=>unfold maxLen;omega
     case a4=>omega
     case a5=>have:=hbq.size;simp;omega
     intro r3 w3 hown3 hg3 _ hat3;have B3:Below w.heap.size w w3:=(hbq.alloc hbq.size _).grown hg3 (by have:=hbq.size;simp;omega) (fun j hj=>(hrq.lt j hj).1);go_wp2_with fail
     refine ⟨⟨q+1,by omega,by first | go_num | simp,B3,by rw [HY.out,← List.append_assoc,recE12_snoc];exact hown3⟩,by simp [RowKit.intOf];omega⟩
    ·obtain rfl:q=m:=by omega
     have j1:¬ (q:Int) < (q:Int):=by omega
     have HT:Hid (E.take q=E):=by show _=_;rw [← HM.out,List.take_length]
     go_wp2_with fail
     refine ⟨⟨k+1,c+q,by omega,by first | go_num | simp,by show _=_;rw [HNx.out,List.length_append,HLc.out,HM.out],hbq,by rw [HNx.out,← HT.out];exact hrq⟩,by simp [RowKit.intOf];omega⟩
  ·obtain rfl:k=n:=by omega
   have jq:¬ (k:Int) < (k:Int):=by omega
   have HT:Hid (l.take k=l):=by show _=_;rw [← HN.out,List.take_length]
   go_wp2_with fail
   go_ret
   refine ⟨_,rfl,hbw,?_⟩;rw [HT.out] at hrow HLc;rw [HLc.out];exact hrow
theorem lessB_lt:∀ a b:List UInt8,lessB a b=true↔a < b
 | [],[]=>by rw [lessB];simp
 | [],_::_=>by rw [lessB];simp
 | _::_,[]=>by rw [lessB];simp
 | a::l,b::m=>by
   rw [lessB,List.cons_lt_cons_iff]
   by_cases h:a < b
   ·rw [if_pos h];simp [h]
   ·rw [if_neg h]
    by_cases e:a=b
    ·rw [if_pos e,lessB_lt l m];simp [e]
    ·rw [if_neg e];simp [h,e]
theorem insK_sorted (k:List UInt8):∀ l:List (List UInt8),l.Pairwise (·< ·)→(insK k l).Pairwise (·< ·)
 | [],_=>by rw [insK];simp
 | x::l,hp=>by
   obtain ⟨h1,h2⟩:=List.pairwise_cons.1 hp;rw [insK]
   by_cases hx:lessB x k=true
   ·rw [if_pos hx]
    refine List.pairwise_cons.2 ⟨fun y hy=>?_,insK_sorted k l h2⟩;rcases (insK_mem k l y).1 hy with e | e
    ·rw [e];exact (lessB_lt x k).1 hx
    ·exact h1 y e
   ·rw [if_neg hx]
    by_cases e:x=k
    ·rw [if_pos e];exact hp
    ·rw [if_neg e]
     have hlt:k < x:=by
      have h3:k≤x:=List.not_lt.1 (fun hh=>hx ((lessB_lt x k).2 hh));rcases Classical.em (k < x) with h4 | h4
      ·exact h4
      ·exact absurd (List.le_antisymm h3 (List.not_lt.1 h4)).symm e
     refine List.pairwise_cons.2 ⟨fun y hy=>?_,hp⟩;rcases List.mem_cons.1 hy with e' | e'
     ·rw [e'];exact hlt
     ·exact List.lt_trans hlt (h1 y e')
theorem keysF_sorted:∀ (l:List Ev) (acc:List (List UInt8)),acc.Pairwise (·< ·)→(keysF acc l).Pairwise (·< ·)
 | [],acc,h=>by rw [keysF];exact h
 | x::l,acc,h=>by
   rw [keysF]
   by_cases hk:keyedE x.1
   ·rw [if_pos hk];exact keysF_sorted l _ (insK_sorted _ _ h)
   ·rw [if_neg hk];exact keysF_sorted l _ h
theorem keysL_sorted (h:List Ev):(keysL h).Pairwise (·< ·):=keysF_sorted h [] List.Pairwise.nil
theorem keysF_snoc (x:Ev):∀ (l:List Ev) (acc:List (List UInt8)),keysF acc (l++[x])=if keyedE x.1 then insK x.2.2.1 (keysF acc l) else keysF acc l
 | [],acc=>by show keysF _ []=_;rw [keysF];rfl
 | y::l,acc=>by
   show keysF acc (y::(l++[x]))=_;rw [keysF,keysF_snoc x l];rfl
theorem insK_split (k:List UInt8):∀ (K:List (List UInt8)) (q:Nat) (hq:q≤K.length) (hl:∀ j (h:j < q),lessB (K[j]'(by omega)) k=true) (hn:∀ h:q < K.length,lessB (K[q]'h) k=false),
 insK k K=if ∃ h:q < K.length,K[q]'h=k then K else K.take q++k::K.drop q
 | [],q,hq,hl,hn=>by
   obtain rfl:q=0:=by simpa using hq
   rw [insK,if_neg (by rintro ⟨h,_⟩;simp at h)];rfl
 | x::K,0,hq,hl,hn=>by
   have:=hn (by simp);simp only [List.getElem_cons_zero] at this;rw [insK,if_neg (by rw [this];simp)]
   by_cases hx:x=k
   ·rw [if_pos hx,if_pos ⟨by simp,hx⟩]
   ·rw [if_neg hx,if_neg (by rintro ⟨_,h⟩;exact hx h)]
    rfl
 | x::K,q+1,hq,hl,hn=>by
   have h0:=hl 0 (by omega);simp only [List.getElem_cons_zero] at h0;rw [insK,if_pos h0,insK_split k K q (by simpa using hq) (fun j h=>by have:=hl (j+1) (by omega);simpa using this) (fun h=>by have:=hn (by simpa using h);simpa using this)]
   by_cases hx:∃ h:q < K.length,K[q]'h=k
   ·rw [if_pos hx,if_pos (by obtain ⟨h,e⟩:=hx;exact ⟨by simpa using h,by simpa using e⟩)]
   ·rw [if_neg hx,if_neg (by rintro ⟨h,e⟩;exact hx ⟨by simpa using h,by simpa using e⟩)]
    rfl
theorem insK_len (k:List UInt8):∀ K:List (List UInt8),(insK k K).length≤K.length+1
 | []=>by rw [insK];simp
 | x::K=>by
   rw [insK]
   by_cases h1:lessB x k=true
   ·rw [if_pos h1];have:=insK_len k K;simp only [List.length_cons];omega
   ·rw [if_neg h1]
    by_cases h2:x=k
    ·rw [if_pos h2];simp
    ·rw [if_neg h2];simp
theorem lessB_same (x y:UInt8) (l m:List UInt8) (h:x=y):lessB (x::l) (y::m)=lessB l m:=by
 subst h;rw [lessB,if_neg (by simp),if_pos rfl]
theorem lessB_diff (x y:UInt8) (l m:List UInt8) (h:x≠y):lessB (x::l) (y::m)=decide (x.toNat < y.toNat):=by
 rw [lessB,if_neg h]
 by_cases hx:x < y
 ·rw [if_pos hx,decide_eq_true (UInt8.lt_iff_toNat_lt.1 hx)]
 ·rw [if_neg hx,decide_eq_false (fun hh=>hx (UInt8.lt_iff_toNat_lt.2 hh))]
theorem lessB_nil (m:List UInt8):lessB [] m=decide (0 < m.length):=by
 cases m with
 | nil=>rfl
 | cons _ _=>rw [lessB];simp
theorem lessB_cons_nil (x:UInt8) (l:List UInt8):lessB (x::l) []=false:=by rw [lessB]
theorem vers_len (h:List Ev) (key:List UInt8):(versL h key).length≤h.length:=by
 unfold versL;have:=List.length_filterMap_le (verOf h key) (List.range h.length);rw [List.length_range] at this;exact this
theorem keysF_len:∀ (l:List Ev) (acc:List (List UInt8)),(keysF acc l).length≤acc.length+l.length
 | [],acc=>by rw [keysF];simp
 | x::l,acc=>by
   rw [keysF];have h1:=keysF_len l (if keyedE x.1 then insK x.2.2.1 acc else acc)
   have h2:(if keyedE x.1 then insK x.2.2.1 acc else acc).length≤acc.length+1:=by
    by_cases hk:keyedE x.1
    ·rw [if_pos hk];exact insK_len _ _
    ·rw [if_neg hk];omega
   simp only [List.length_cons];omega
theorem keys_len (h:List Ev):(keysL h).length≤h.length:=by
 have:=keysF_len h [];simpa [keysL] using this
def fiF (p:Nat→Bool) (m n:Nat):Option Nat:=((List.range n).drop m).find? p
theorem fiF_end (p:Nat→Bool) (n:Nat):fiF p n n=none:=by
 unfold fiF;rw [List.drop_of_length_le (by rw [List.length_range];exact Nat.le_refl _)];rfl
theorem fiF_step (p:Nat→Bool) (m n:Nat) (hm:m < n):fiF p m n=if p m=true then some m else fiF p (m+1) n:=by
 unfold fiF;rw [List.drop_eq_getElem_cons (by rw [List.length_range];exact hm),List.getElem_range]
 by_cases h:p m=true
 ·rw [if_pos h,List.find?_cons_of_pos h]
 ·rw [if_neg h,List.find?_cons_of_neg h]
theorem fiF_zero (p:Nat→Bool) (n:Nat):fiF p 0 n=fi p n:=rfl
def isVer (h:List Ev) (v:List Nat) (i n:Nat):Bool:=decide ((ev h (vAt v n)).2.2.2=(ev h i).2.2.2)
theorem verAt_is (h:List Ev) (v:List Nat) (i:Nat):verAt h v i=fi (isVer h v i) v.length:=rfl
def wTo (h:List Ev) (v:List Nat) (n:Nat):List Ed:=(List.range n).filterMap (wEdge h v)
theorem wTo_next (h:List Ev) (v:List Nat) (n:Nat):wTo h v (n+1)=wTo h v n++(wEdge h v n).toList:=by
 unfold wTo;rw [List.range_succ,List.filterMap_append];cases hl:wEdge h v n with
 | none=>simp [hl]
 | some x=>simp [hl]
theorem wTo_len (h:List Ev) (v:List Nat) (n:Nat):(wTo h v n).length≤n:=by
 unfold wTo;have:=List.length_filterMap_le (wEdge h v) (List.range n)
 rwa [List.length_range] at this
def rOf (h:List Ev) (key:List UInt8) (v:List Nat) (i:Nat):List Ed:=if readOf h key i=true then rdEdges h v i else []
def rTo (h:List Ev) (key:List UInt8) (v:List Nat) (i:Nat):List Ed:=(List.range i).flatMap (rOf h key v)
theorem rTo_next (h:List Ev) (key:List UInt8) (v:List Nat) (i:Nat):rTo h key v (i+1)=rTo h key v i++rOf h key v i:=by
 unfold rTo;rw [List.range_succ,List.flatMap_append];simp
theorem rEdge_len (h:List Ev) (v:List Nat) (i n:Nat):(rEdge h v i n).length≤1:=by
 unfold rEdge
 by_cases hh:tx h (vAt v n)=tx h i
 ·rw [if_pos hh];simp
 ·rw [if_neg hh];simp
theorem oEdge_len (h:List Ev) (v:List Nat) (i n:Nat):(oEdge h v i n).length≤1:=by
 unfold oEdge
 by_cases hh:n < v.length∧tx h (vAt v n)≠tx h i
 ·rw [if_pos hh];simp
 ·rw [if_neg hh];simp
theorem rOf_len (h:List Ev) (key:List UInt8) (v:List Nat) (i:Nat):(rOf h key v i).length≤2:=by
 unfold rOf
 by_cases hh:readOf h key i=true
 ·rw [if_pos hh]
  unfold rdEdges;cases verAt h v i with
  | none =>
    simp only
    by_cases hv:(ev h i).2.2.2=[]
    ·rw [if_pos hv];have:=oEdge_len h v i 0;omega
    ·rw [if_neg hv];simp
  | some n =>
    simp only;rw [List.length_append];have:=rEdge_len h v i n;have:=oEdge_len h v i (n+1);omega
 ·rw [if_neg hh];simp
def eTo (h:List Ev) (k:Nat):List Ed:=((keysL h).take k).flatMap (keyEdges h)
theorem eTo_next (h:List Ev) (k:Nat) (hk:k < (keysL h).length):eTo h (k+1)=eTo h k++keyEdges h (keysL h)[k]:=by
 unfold eTo;rw [List.take_succ_eq_append_getElem hk,List.flatMap_append];simp
theorem eTo_all (h:List Ev):eTo h (keysL h).length=edgesL h:=by
 unfold eTo edgesL;rw [List.take_of_length_le (Nat.le_refl _)]
theorem keyEdges_is (h:List Ev) (key:List UInt8):keyEdges h key=wTo h (versL h key) ((versL h key).length - 1)++rTo h key (versL h key) h.length:=rfl
theorem vers_lt (h:List Ev) (key:List UInt8) (y:Nat) (hy:y∈versL h key):y < h.length:=by
 unfold versL at hy;obtain ⟨i,hi,hv⟩:=List.mem_filterMap.1 hy;have:=List.mem_range.1 hi;have:=(verOf_some hv).2.2.1;omega
theorem sum_add {α:Type} (f g:α→Nat):∀ K:List α,(K.map fun x=>f x+g x).sum=(K.map f).sum+(K.map g).sum
 | []=>rfl
 | x::K=>by simp only [List.map_cons,List.sum_cons];rw [sum_add f g K];omega
theorem sum_le {α:Type} (f g:α→Nat):∀ K:List α,(∀ x∈K,f x≤g x)→(K.map f).sum≤(K.map g).sum
 | [],_=>Nat.le_refl _
 | x::K,h=>by
   simp only [List.map_cons,List.sum_cons];have h1:=h x (List.mem_cons_self ..);have h2:=sum_le f g K (fun y hy=>h y (List.mem_cons_of_mem _ hy));omega
theorem sum_zero {α:Type}:∀ K:List α,(K.map fun _=>0).sum=0
 | []=>rfl
 | _::K=>by simp [sum_zero K]
theorem sum_one {α:Type} [DecidableEq α] (y:α):∀ K:List α,K.Nodup→(K.map fun k=>if y=k then 1 else 0).sum≤1
 | [],_=>by simp
 | x::K,h=>by
   obtain ⟨h1,h2⟩:=List.nodup_cons.1 h;simp only [List.map_cons,List.sum_cons];have ih:=sum_one y K h2
   by_cases e:y=x
   ·rw [if_pos e]
    have:(K.map fun k=>if y=k then 1 else 0).sum=0:=by
     have e3:(K.map fun k=>if y=k then 1 else 0)=K.map fun _=>0:=List.map_congr_left (fun k hk=>if_neg (fun e2=>h1 (by rw [← e,e2];exact hk)))
     rw [e3,sum_zero]
    omega
   ·rw [if_neg e];omega
def kCnt (h:List Ev) (n:Nat) (key:List UInt8):Nat:=(List.range n).countP fun i=>decide ((ev h i).2.2.1=key)
theorem kCnt_sum (h:List Ev) (K:List (List UInt8)) (hK:K.Nodup):∀ n,(K.map (kCnt h n)).sum≤n
 | 0=>by
   have:K.map (kCnt h 0)=K.map fun _=>0:=List.map_congr_left (fun k _=>rfl)
   rw [this,sum_zero];exact Nat.le_refl _
 | n+1=>by
   have e:K.map (kCnt h (n+1))=K.map fun k=>kCnt h n k+if (ev h n).2.2.1=k then 1 else 0:=List.map_congr_left (fun k _=>by
    unfold kCnt;rw [List.range_succ,List.countP_append,List.countP_singleton];simp)
   rw [e,sum_add];have h1:=kCnt_sum h K hK n;have h2:=sum_one (ev h n).2.2.1 K hK;omega
theorem nodup_count (l:List Nat) (n:Nat) (p:Nat→Bool) (hl:l.Nodup) (h:∀ x∈l,x < n∧p x=true):l.length≤(List.range n).countP p:=by
 have pm:l.Perm ((List.range n).filter fun x=>decide (x∈l)):=by
  refine (List.perm_ext_iff_of_nodup hl (List.Pairwise.filter _ List.nodup_range)).2 fun x=>?_
  rw [List.mem_filter,List.mem_range,decide_eq_true_eq];exact ⟨fun hx=>⟨(h x hx).1,hx⟩,fun hx=>hx.2⟩
 rw [pm.length_eq,← List.countP_eq_length_filter];exact List.countP_mono_left (fun x _ hx=>(h x (by simpa using hx)).2)
theorem vers_nodup (h:List Ev) (key:List UInt8):(versL h key).Nodup:=by
 unfold versL;refine List.Pairwise.filterMap (R:=fun a b:Nat=>a < b) _ ?_ List.pairwise_lt_range;intro a b hab x hx y hy exy;have h1:=verOf_some hx;have h2:=verOf_some hy;subst exy;have e:(ev h a).2.1=(ev h b).2.1:=h1.2.2.2.2.1.symm.trans h2.2.2.2.2.1;have e1:=h1.2.1;rw [e,h2.2.1] at e1;have:=Option.some.inj e1;omega
def c3 (h:List Ev) (key:List UInt8) (i:Nat):Bool:=decide ((ev h i).1=3)&&decide ((ev h i).2.2.1=key)
def c2 (h:List Ev) (key:List UInt8) (i:Nat):Bool:=decide ((ev h i).1=2)&&decide ((ev h i).2.2.1=key)
theorem rTo_cnt (h:List Ev) (key:List UInt8) (v:List Nat):∀ i,(rTo h key v i).length≤2*(List.range i).countP (c2 h key)
 | 0=>by unfold rTo;simp
 | i+1=>by
   rw [rTo_next,List.length_append,List.range_succ,List.countP_append,List.countP_singleton];have h1:=rTo_cnt h key v i;have h2:=rOf_len h key v i
   by_cases hr:readOf h key i=true
   ·have hc:c2 h key i=true:=by
     unfold readOf at hr;rw [Bool.and_eq_true,decide_eq_true_eq] at hr;unfold outerB at hr;rw [Bool.and_eq_true] at hr;have:=(counts_iff h i).1 hr.2.1;unfold c2;rw [Bool.and_eq_true,decide_eq_true_eq,decide_eq_true_eq];exact ⟨this.2.1,hr.1⟩
    rw [hc];simp;omega
   ·have:rOf h key v i=[]:=by unfold rOf;rw [if_neg hr]
    rw [this];simp;omega
theorem c_sum (h:List Ev) (key:List UInt8):∀ n,(List.range n).countP (c3 h key)+2*(List.range n).countP (c2 h key)≤2*kCnt h n key
 | 0=>by simp [kCnt]
 | n+1=>by
   have ih:=c_sum h key n;unfold kCnt at ih ⊢;rw [List.range_succ,List.countP_append,List.countP_append,List.countP_append,List.countP_singleton,List.countP_singleton,List.countP_singleton]
   by_cases hk:(ev h n).2.2.1=key
   ·by_cases h3:(ev h n).1=3
    ·simp [c3,c2,hk,h3]
     omega
    ·by_cases h2:(ev h n).1=2
     ·simp [c3,c2,hk,h2]
      omega
     ·simp [c3,c2,hk,h3,h2]
      omega
   ·simp [c3,c2,hk]
    omega
theorem key_cnt (h:List Ev) (key:List UInt8):(keyEdges h key).length≤2*kCnt h h.length key:=by
 rw [keyEdges_is,List.length_append];have h1:=wTo_len h (versL h key) ((versL h key).length - 1);have h2:=rTo_cnt h key (versL h key) h.length
 have h3:=nodup_count (versL h key) h.length (c3 h key) (vers_nodup h key) (fun x hx=>⟨vers_lt h key x hx,by
  unfold versL at hx;obtain ⟨i,_,hv⟩:=List.mem_filterMap.1 hx;have:=verOf_some hv;unfold c3;rw [Bool.and_eq_true,decide_eq_true_eq,decide_eq_true_eq];exact ⟨this.2.2.2.1,this.2.2.2.2.2.1⟩⟩)
 have h4:=c_sum h key h.length;omega
theorem edges_few (h:List Ev):(edgesL h).length≤2*h.length:=by
 unfold edgesL;rw [List.length_flatMap];have nd:(keysL h).Nodup:=List.Pairwise.imp (fun {a b} hlt e=>by rw [e] at hlt;exact List.lt_irrefl b hlt) (keysL_sorted h);have h1:=sum_le (fun key=>(keyEdges h key).length) (fun key=>kCnt h h.length key+kCnt h h.length key) (keysL h) (fun k _=>by have:=key_cnt h k;omega);rw [sum_add] at h1;have h2:=kCnt_sum h (keysL h) nd h.length;omega
theorem getD_at {α:Type} (l:List α) (d:α) (j:Nat) (h:j < l.length):l.getD j d=l[j]:=by rw [List.getD_eq_getElem?_getD,List.getElem?_eq_getElem h,Option.getD_some]
theorem IsInts.reads {w:World} {v:Value} {L:List Int} (hT:IsInts w v L):∃ a cap,v=.slice a L.length cap∧L.length≤cap∧cap≤9223372036854775807∧L.length≤140737488351232 ∧
 Hid (0 < L.length→∃ b off,a=some ⟨b,off,none⟩∧Hid (∀ j,j < L.length→∀ V,Below w.heap.size w V→V.cell? ⟨b,off+j,none⟩=some (.int .i64 (L.getD j 0)))):=by
 obtain ⟨a,cap,rfl,h1,h2,h3,HC⟩:=hT.some_at;refine ⟨a,cap,rfl,h1,h2,h3,?_⟩;intro h0;obtain ⟨b,off,rfl,hlt,_⟩:=HC.out 0 h0;refine ⟨b,off,rfl,?_⟩;intro j hj V hV;obtain ⟨b',off',hbo,_,hc⟩:=HC.out j hj;obtain ⟨rfl,rfl⟩:b=b'∧off=off':=by simpa using hbo
 have:=hc 0 (.int .i64 L[j]) rfl;rw [getD_at L 0 j hj];refine (hV.cell (p:=⟨b,off+j,none⟩) hlt).trans ?_;simpa using this
theorem mem_getD {l:List Int} {k:Nat} {x:Int} (hk:k < l.length) (h:l.getD k 0=x):x∈l:=by
 rw [getD_at l 0 k hk] at h;rw [← h];exact List.getElem_mem hk
theorem not_mem_getD {l:List Int} {x:Int} (h:∀ j,j < l.length→l.getD j 0≠x):¬ x∈l:=fun hm=>by
 obtain ⟨j,hj,e⟩:=List.getElem_of_mem hm;exact h j hj (by rw [getD_at l 0 j hj];exact e)
def dropI (x:Int) (l:List Int):List Int:=l.filter fun y=>decide (y≠x)
set_option maxHeartbeats 1000000 in
theorem rhas_any (v:Value) (l:List Int) (x:Int) (w:World) (hT:IsInts w v l) :
 Calls Tryz.prog 121 #[v,.int .i64 x] w fun e w'=>e=.returned (Value.bool (decide (x∈l)))∧Below w.heap.size w w':=by
 obtain ⟨a,cap,rfl,h1,h2,h3,HC⟩:=IsInts.reads hT;obtain ⟨n,hn⟩:∃ n,l.length=n:=⟨_,rfl⟩;have HN:Hid (l.length=n):=hn;obtain ⟨r,hr⟩:∃ r,(Value.bool (decide (x∈l)))=r:=⟨_,rfl⟩;have HR:Hid ((Value.bool (decide (x∈l)))=r):=hr;rw [hr];rw [hn] at h1 h3 ⊢;clear hT hn hr;go_enter Tryz.func121,Tryz.ntmps121
 go_wp2_with fail
 go_loopw [5] (fun i wr=>∃ k:Nat,k≤n∧i=.int .i64 k∧Hid (∀ j,j < k→l.getD j 0≠x)∧Below w.heap.size w wr) (fun i _=>n - (RowKit.intOf i).toNat)
 case atStart=>exact ⟨0,Nat.zero_le _,rfl,(fun j hj=>by omega),Below.refl _ _⟩
 case round =>
  obtain ⟨k,hk,rfl,HA,hbw⟩:=hrel
  by_cases hlt:k < n
  ·have hk1:k < l.length:=by have:=HN.out;omega
   have jk:(k:Int) < (n:Int):=by omega
   obtain ⟨bb,off,rfl,HQ⟩:=HC.out (by omega);have c0:=HQ.out k hk1 _ hbw;obtain ⟨y,hy⟩:∃ y,l.getD k 0=y:=⟨_,rfl⟩;rw [hy] at c0
   by_cases d:y=x
   ·have e1:(y==x)=true:=by rw [d];exact beq_self_eq_true _
    have HF:Hid (r=Value.bool true):=by
     show _=_;rw [← HR.out];rw [decide_eq_true (mem_getD hk1 (hy.trans d))]
    clear d hy;go_wp2_with fail
    go_ret
    exact ⟨by rw [HF.out];rfl,hbw⟩
   ·have e1:(y==x)=false:=beq_eq_false_iff_ne.2 d
    have HA2:Hid (∀ j,j < k+1→l.getD j 0≠x):=fun j hj=>by
     rcases Nat.lt_or_ge j k with hj2 | hj2
     ·exact HA.out j hj2
     ·obtain rfl:j=k:=by omega
      rw [hy];exact d
    clear d hy;go_wp2_with fail
    refine ⟨⟨k+1,by omega,by first | go_num | simp,HA2,hbw⟩,by simp [RowKit.intOf];omega⟩
  ·obtain rfl:k=n:=by omega
   have jk:¬ (k:Int) < (k:Int):=by omega
   have HF:Hid (r=Value.bool false):=by
    show _=_;rw [← HR.out];rw [decide_eq_false (not_mem_getD (fun j hj=>HA.out j (by rw [← HN.out];exact hj)))]
   go_wp2_with fail
   go_ret
   exact ⟨by rw [HF.out];rfl,hbw⟩
set_option maxHeartbeats 1000000 in
theorem rwithout_any (v:Value) (l:List Int) (x:Int) (w:World) (hT:IsInts w v l) (hn:l.length≤1000000000) :
 Calls Tryz.prog 122 #[v,.int .i64 x] w fun e w'=>InRow w (dropI x l) e w':=by
 obtain ⟨i0,hi,hz0,hz1,hz2⟩:=info_parts int_info;obtain ⟨a,cap,rfl,h1,h2,h3,HC⟩:=IsInts.reads hT;obtain ⟨n,hn'⟩:∃ n,l.length=n:=⟨_,rfl⟩;have HN:Hid (l.length=n):=hn';rw [hn'] at h1 h3 hn ⊢;clear hT hn';go_enter Tryz.func122,Tryz.ntmps122
 go_wp2_with fail
 go_loopw [5,6] (fun r i wr=>∃ (k c:Nat),k≤n∧c≤k∧i=.int .i64 k∧Hid ((dropI x (l.take k)).length=c)∧Below w.heap.size w wr∧wr.ownsRow w.heap.size 3 1 r c (recV intV (dropI x (l.take k)))) (fun _ i _=>n - (RowKit.intOf i).toNat)
 case atStart=>exact ⟨0,0,Nat.zero_le _,Nat.zero_le _,rfl,rfl,Below.refl _ _,World.ownsRow_nil _ _ _ _⟩
 case round =>
  obtain ⟨k,c,hk,hc,rfl,HL,hbw,hrow⟩:=hrel
  by_cases hlt:k < n
  ·have hk1:k < l.length:=by have:=HN.out;omega
   have jk:(k:Int) < (n:Int):=by omega
   obtain ⟨bb,off,rfl,HQ⟩:=HC.out (by omega);have c0:=HQ.out k hk1 _ hbw;obtain ⟨y,hy⟩:∃ y,l.getD k 0=y:=⟨_,rfl⟩;rw [hy] at c0
   have HT:Hid (dropI x (l.take (k+1))=dropI x (l.take k)++(if y=x then [] else [y])):=by
    show _=_;unfold dropI;rw [List.take_succ_eq_append_getElem hk1,List.filter_append,← getD_at l 0 k hk1,hy]
    congr 1
    by_cases d:y=x
    ·rw [if_pos d];simp [d]
    ·rw [if_neg d];simp [d]
   clear hy
   by_cases d:y=x
   ·have e1:(y != x)=false:=by rw [d];simp
    rw [if_pos d,List.append_nil] at HT;clear d;go_wp2_with fail
    refine ⟨⟨k+1,c,by omega,by omega,by first | go_num | simp,by show _=_;rw [HT.out];exact HL.out,hbw,by rw [HT.out];exact hrow⟩,by simp [RowKit.intOf];omega⟩
   ·have e1:(y != x)=true:=bne_iff_ne.2 d
    rw [if_neg d] at HT;clear d;obtain ⟨DR,hDR⟩:∃ d:List Int,dropI x (l.take k)=d:=⟨_,rfl⟩;rw [hDR] at hrow HT HL;have sz:=hbw.size;go_wp2_with (at_builtin;refine wpList_append_own _ rfl _ _ 22 rfl w.heap.size 3 i0 (.int .i64 0) 1 8 Tryz.underlying22 hi hz0 hz1 hz2 rfl (by decide) _ _ _ rfl (hrow.alloc _) ⟨wr.heap.size,0,none⟩ 1 1 [.int .i64 y] rfl rfl ?d1 ?d2 ?d3 ?d4 ?d5 ?_)
    case d1=>intro j u hj;match j,hj with
     | 0,hj=>simp at hj;subst hj;first | (simp [Addr.add];done) | exact cell_new7 (by simp) rfl
    case d2=>intro u hu;simp at hu;subst hu;rfl
    case d3=>unfold maxLen;omega
    case d4=>omega
    case d5=>simp;omega
    intro v' w3 own3 g3 _;have B3:Below w.heap.size w w3:=(hbw.alloc hbw.size _).grown g3 (by simp;omega) (fun j hj=>(hrow.lt j hj).1);go_wp2_with fail
    refine ⟨⟨k+1,c+1,by omega,by omega,by first | go_num | simp,by show _=_;rw [HT.out,List.length_append,HL.out];rfl,B3,by rw [HT.out,recV_append];exact own3⟩,by simp [RowKit.intOf];omega⟩
  ·obtain rfl:k=n:=by omega
   have jk:¬ (k:Int) < (k:Int):=by omega
   have HE:Hid (dropI x (l.take k)=dropI x l):=by show _=_;rw [← HN.out,List.take_length]
   go_wp2_with fail
   go_ret
   refine ⟨_,rfl,hbw,?_⟩;rw [← HE.out,HL.out];exact hrow
end Go.Proofs.YthamoeekiglphaaGreatDoor
namespace Go.Proofs.YthamoeekiglphaaGreatDoor
set_option maxRecDepth 100000
open Go.RowKit
set_option linter.unusedVariables false
def Apart11 (r v:Value):Prop:=∀ g,v.ownBlock=some g→r.ownBlock≠some g
theorem apart11_kept {W W':World} {B e k n:Nat} {r v:Value} {xs:List Value} (h:W.ownsRow B e k v n xs) (hg:W.grownBy W' r.ownBlock) (ha:Apart11 r v):W'.ownsRow B e k v n xs:=by
 refine h.kept hg ?_;cases hv:v.ownBlock with
 | none=>exact .inl rfl
 | some g=>exact .inr (fun e=>ha g hv (by rw [← e]))
theorem apart11_low {W W':World} {B C e k e' k' n n':Nat} {r v:Value} {xs ys:List Value} (hr:W.ownsRow B e k r n xs) (hv:W'.ownsRow C e' k' v n' ys) (hC:W.heap.size≤C):Apart11 r v:=by
 intro g h1 h2;have:=(hr.lt g h2).2;have:=(hv.lt g h1).1;omega
theorem apart11_nil (v:Value) (n c:Nat):Apart11 (.slice none n c) v:=fun g _ h=>by simp [Value.ownBlock] at h
def Shp (v:Value):Prop:=v=.slice none 0 0∨∃ ad n c,v=.slice (some ad) n c
theorem Shp.own {W:World} {B e k n:Nat} {v:Value} {xs:List Value} (h:W.ownsRow B e k v n xs):Shp v:=by
 rcases h.2 with ⟨rfl,_⟩ | ⟨g,cap,cur,rfl,_⟩
 ·exact .inl rfl
 ·exact .inr ⟨_,_,_,rfl⟩
def slLen:Value→Nat
 | .slice _ n _=>n
 | _=>0
section
variable {α:Type}
def freeTo (l:List (Sp α)) (left:List Int) (x:Int) (z:Nat):Bool:=freeB (l.take z) left x
theorem freeTo_next (l:List (Sp α)) (left:List Int) (x:Int) (z:Nat) (hz:z < l.length):freeTo l left x (z+1)=(freeTo l left x z&&!(decide (l[z].2.1=x)&&decide (l[z].1∈left))):=by
 unfold freeTo freeB;rw [List.take_succ_eq_append_getElem hz,List.all_append];simp
theorem freeTo_all (l:List (Sp α)) (left:List Int) (x:Int):freeTo l left x l.length=freeB l left x:=by unfold freeTo;rw [List.take_length]
def bestTo (l:List (Sp α)) (left:List Int) (q:Nat):Option Int:=minI ((left.take q).filter fun x=>freeB l left x)
theorem minI_snoc (L:List Int) (x:Int):minI (L++[x])=match minI L with
 | none=>some x
 | some y=>some (if x < y then x else y):=by
 cases hm:minI L with
 | none =>
   rw [(minI_none L).1 hm];rfl
 | some y =>
   simp only;obtain ⟨h1,h2⟩:=(minI_some L y).1 hm;rw [minI_some]
   by_cases hx:x < y
   ·rw [if_pos hx]
    refine ⟨by simp,fun z hz=>?_⟩;rcases List.mem_append.1 hz with hz | hz
    ·have:=h2 z hz;omega
    ·rw [List.mem_singleton.1 hz];exact Int.le_refl _
   ·rw [if_neg hx]
    refine ⟨List.mem_append.2 (.inl h1),fun z hz=>?_⟩;rcases List.mem_append.1 hz with hz | hz
    ·exact h2 z hz
    ·rw [List.mem_singleton.1 hz];omega
theorem bestTo_no (l:List (Sp α)) (left:List Int) (q:Nat) (hq:q < left.length) (h:freeB l left left[q]=false):bestTo l left (q+1)=bestTo l left q:=by
 unfold bestTo;rw [List.take_succ_eq_append_getElem hq,List.filter_append];rw [show List.filter (fun x=>freeB l left x) [left[q]]=[] by simp [h]];simp
theorem bestTo_yes (l:List (Sp α)) (left:List Int) (q:Nat) (hq:q < left.length) (h:freeB l left left[q]=true):bestTo l left (q+1)=match bestTo l left q with
 | none=>some left[q]
 | some y=>some (if left[q] < y then left[q] else y):=by
 unfold bestTo;rw [List.take_succ_eq_append_getElem hq,List.filter_append];rw [show List.filter (fun x=>freeB l left x) [left[q]]=[left[q]] by simp [h]];exact minI_snoc _ _
theorem bestTo_all (l:List (Sp α)) (left:List Int):bestTo l left left.length=bestL l left:=by unfold bestTo bestL;rw [List.take_length]
def ordI (nodes:List Int) (l:List (Sp α)) (left out:List Int):Prop:=∃ fuel,left.length≤fuel∧orderL nodes l=(orderF l fuel left).map (out++·)
theorem ordI_start (nodes:List Int) (l:List (Sp α)):ordI nodes l nodes []:=⟨nodes.length,Nat.le_refl _,by unfold orderL;cases orderF l nodes.length nodes<;>rfl⟩
theorem ordI_end (nodes:List Int) (l:List (Sp α)) (out:List Int) (h:ordI nodes l [] out):orderL nodes l=some out:=by
 obtain ⟨fuel,_,h⟩:=h;rw [h];cases fuel<;>simp [orderF]
theorem ordI_none (nodes:List Int) (l:List (Sp α)) (left out:List Int) (h:ordI nodes l left out) (hne:left≠[]) (hb:bestL l left=none):orderL nodes l=none:=by
 obtain ⟨fuel,hf,h⟩:=h;cases fuel with
 | zero=>exact absurd (List.length_eq_zero_iff.1 (by omega)) hne
 | succ fuel =>
   rw [h,orderF,if_neg hne,hb];rfl
theorem ordI_next (nodes:List Int) (l:List (Sp α)) (left out:List Int) (b:Int) (h:ordI nodes l left out) (hne:left≠[]) (hb:bestL l left=some b):ordI nodes l (left.filter fun x=>decide (x≠b)) (out++[b]):=by
 obtain ⟨fuel,hf,h⟩:=h;cases fuel with
 | zero=>exact absurd (List.length_eq_zero_iff.1 (by omega)) hne
 | succ fuel =>
   have hlt:=filter_less left b ((best_some l left b).1 hb).1.1;refine ⟨fuel,by omega,?_⟩;rw [h,orderF,if_neg hne,hb];simp only;cases orderF l fuel (left.filter fun x=>decide (x≠b)) with
   | none=>rfl
   | some o=>simp
end
end Go.Proofs.YthamoeekiglphaaGreatDoor
namespace Go.Proofs.YthamoeekiglphaaGreatDoor
set_option maxRecDepth 100000
open Go.RowKit
set_option linter.unusedVariables false
theorem sl_info:(Tryz.prog.info? 22).map (fun i=>(i.zero,i.size,i.bytes))=some (some (.slice none 0 0),1,24):=by kernel_rfl
theorem own_lit (w:World) (e k n:Nat) (xs:List Value) (hx:xs.length=n*k) (hs:n≤1000):(w.alloc (.cells xs.toArray e)).ownsRow w.heap.size e k (.slice (some ⟨w.heap.size,0,none⟩) n n) n xs :=
 ⟨hx,.inr ⟨w.heap.size,n,_,rfl,Nat.le_refl _,SBox.new w e _,Nat.le_refl _,by unfold maxLen;omega,by rw [List.size_toArray,hx],by rw [List.toList_toArray,List.take_of_length_le (by rw [hx];exact Nat.le_refl _)]⟩⟩
theorem apart_types {W:World} {B B' e e' k k' n n':Nat} {r v:Value} {xs ys:List Value} (hr:W.ownsRow B e k r n xs) (hv:W.ownsRow B' e' k' v n' ys) (hne:e≠e'):Apart11 r v:=by
 intro g h1 h2;rcases hr.2 with ⟨rfl,_⟩ | ⟨g1,c1,u1,rfl,_,b1,_⟩
 ·simp [Value.ownBlock] at h2
 ·rcases hv.2 with ⟨rfl,_⟩ | ⟨g2,c2,u2,rfl,_,b2,_⟩
  ·simp [Value.ownBlock] at h1
  ·obtain rfl:g1=g:=by simpa [Value.ownBlock] using h2
   obtain rfl:g2=g1:=by simpa [Value.ownBlock] using h1
   rw [b1] at b2;simp at b2;exact hne b2.2
def WaysOk (w W:World) (l:List Stp) (to:Int) (Vs:List Value):Prop:=∀ (n:Nat) u,Vs[n]?=some u→∃ N:List Int,W.ownsRow w.heap.size 3 1 u N.length (recV intV N)∧N.length≤l.length+1∧∀ x,x∈N↔wayB l to n x=true
theorem WaysOk.below {w W W':World} {l:List Stp} {to:Int} {Vs:List Value} (h:WaysOk w W l to Vs) (hb:Below W.heap.size W W'):WaysOk w W' l to Vs:=fun n u hu=>by
 obtain ⟨N,h1,h2⟩:=h n u hu;exact ⟨N,owns_below h1 hb,h2⟩
theorem WaysOk.grown {w W W':World} {l:List Stp} {to:Int} {Vs:List Value} {B k n:Nat} {r:Value} {xs:List Value} (h:WaysOk w W l to Vs) (hr:W.ownsRow B 22 k r n xs) (hne:22≠3) (hg:W.grownBy W' r.ownBlock):WaysOk w W' l to Vs:=fun j u hu=>by
 obtain ⟨N,h1,h2⟩:=h j u hu;exact ⟨N,apart11_kept h1 hg (apart_types hr h1 hne),h2⟩
theorem WaysOk.push {w W:World} {l:List Stp} {to:Int} {Vs:List Value} (h:WaysOk w W l to Vs) (u:Value) (N:List Int) (h1:W.ownsRow w.heap.size 3 1 u N.length (recV intV N)) (h2:N.length≤l.length+1) (h3:∀ x,x∈N↔wayB l to Vs.length x=true):WaysOk w W l to (Vs++[u]):=fun n u' hu=>by
 rcases Nat.lt_or_ge n Vs.length with hn | hn
 ·rw [List.getElem?_append_left hn] at hu
  exact h n u' hu
 ·rw [List.getElem?_append_right hn] at hu
  rcases Nat.eq_zero_or_pos (n - Vs.length) with h0 | h0
  ·rw [h0] at hu
   simp only [List.getElem?_cons_zero,Option.some.injEq] at hu;subst hu;obtain rfl:n=Vs.length:=by omega
   exact ⟨N,h1,h2,h3⟩
  ·rw [List.getElem?_eq_none (by simp;omega)] at hu
   cases hu
def nextP (l:List Stp) (to:Int) (n z:Nat) (x:Int):Prop:=∃ j,∃ h:j < l.length,j < z∧l[j].1=x∧wayB l to n l[j].2.1=true
theorem nextP_all (l:List Stp) (to:Int) (n:Nat) (x:Int):nextP l to n l.length x↔wayB l to (n+1) x=true:=by
 rw [wayB,List.any_eq_true]
 constructor
 ·rintro ⟨j,hj,_,h1,h2⟩
  exact ⟨l[j],List.getElem_mem hj,by simp [h1,h2]⟩
 ·rintro ⟨s,hs,h⟩
  obtain ⟨j,hj,rfl⟩:=List.getElem_of_mem hs;rw [Bool.and_eq_true,decide_eq_true_eq] at h;exact ⟨j,hj,hj,h.1,h.2⟩
theorem nextP_no (l:List Stp) (to:Int) (n z:Nat) (x:Int) (hz:z < l.length) (h:wayB l to n l[z].2.1=false):nextP l to n (z+1) x↔nextP l to n z x:=by
 constructor
 ·rintro ⟨j,hj,h0,h1,h2⟩
  rcases Nat.lt_or_ge j z with h' | h'
  ·exact ⟨j,hj,h',h1,h2⟩
  ·obtain rfl:j=z:=by omega
   rw [h] at h2;cases h2
 ·rintro ⟨j,hj,h0,h1,h2⟩
  exact ⟨j,hj,by omega,h1,h2⟩
theorem nextP_yes (l:List Stp) (to:Int) (n z:Nat) (x:Int) (hz:z < l.length) (h:wayB l to n l[z].2.1=true):nextP l to n (z+1) x↔x=l[z].1∨nextP l to n z x:=by
 constructor
 ·rintro ⟨j,hj,h0,h1,h2⟩
  rcases Nat.lt_or_ge j z with h' | h'
  ·exact .inr ⟨j,hj,h',h1,h2⟩
  ·obtain rfl:j=z:=by omega
   exact .inl h1.symm
 ·rintro (rfl | ⟨j,hj,h0,h1,h2⟩)
  ·exact ⟨z,hz,by omega,rfl,h⟩
  ·exact ⟨j,hj,by omega,h1,h2⟩
def WaysRes (w:World) (l:List Stp) (to:Int) (many:Nat) (e:Ending) (w':World):Prop:=∃ v Vs,e=.returned v∧Below w.heap.size w w'∧Vs.length=many+1∧w'.ownsRow w.heap.size 22 1 v (many+1) Vs∧WaysOk w w' l to Vs
end Go.Proofs.YthamoeekiglphaaGreatDoor
